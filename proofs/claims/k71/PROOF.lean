import PyProof.Rows.All
import Wide.All
import OpenK.AllK
import Wide.FinOn
import HandS.ForMost
import HandS.IsInst
import HandS.Wide
import HandS.Style
import HandS.Walk
import HandS.Zip
import HandS.Flow
import HandS.ForExc
import HandS.ExcInit
import HandS.Property
import HandS.TupSets
import HandS.Ends
import HandS.OwnEq
import HandS.MakeKw
import HandS.MakeKwOnly
import HandS.DictComp
import HandS.SortKw
import HandS.SortInts
import HandS.Conv
import KE.GoesEnumKw
import KE.GoesMore
import PyProof.InstEq
import HandS.Deep
import HandS.Remove
import HandS.OwnIter
import KE.KDictZip
import HandS.Small
import HandS.ExcOwn
import HandS.RaiseMore
import KE.KTupSum
import PySem.Challenge.RW_orderlycore_k71_whole_orders_by_an_own_l
set_option Elab.async false
set_option linter.all false
set_option maxRecDepth 100000
set_option maxHeartbeats 4000000
namespace Hx
open PySem PySem.Spec PyProof.Rows L2
/-! ### own rules -/
section
variable {X : Cx} {CX : CXT} {k : Nat} {f : Addr} {fd : FuncData} {ps ks : List Str} {sp : Sp} {E : XK} {x : Str} {p pos : Pos} {kws : List Keyword} {tk : TA} {g : List Value → List Value → List Value} {gV : List V → List V → List V}
theorem pe_callKA (F : FnOk X.prog X.w X.K X.mg X.base CX k f fd ps sp) (hr : Room k X.A) (hg : Gl X x) (hm : X.mg x = some (.ref f)) (hk : PySem.W.keepIn X.K (.ref f) = true) (hb : KBinds X.K fd ps ks g gV) (hx : Passes CX X E)
    (hkw : PK X kws tk) (hall : (backToKw pos (keywordEach kws X.env)).all (·.1.isSome) = true := by rfl) (hks : (backToKw pos (keywordEach kws X.env)).filterMap (·.1) = ks := by rfl)
    (hdb : (x == ("__debug__" : Str)) = false := by decide)
    (hpl : ((backTo pos (starEach [] X.env)).any (·.1) || (backToKw pos (keywordEach kws X.env)).any (·.1.isNone)) = false := by rfl) :
    PE X (.Call (.Name x p) [] kws pos) (tCallK sp gV E tNil tk) := by
  refine ⟨fun pins s σ H Q I h => ?_⟩
  refine wpAny_Call_Name_kw (ld_glob I hg hm ?_ hdb)
  refine PySem.W.callWith_KW0 (h₀ := X.base) I.ok.mod.kin hk hall ?_ hpl
  refine thn (hkw.run pos pins s σ H _ I h) fun ws s2 ⟨zs, H2, I2, rz, q2⟩ => ⟨I2.kIn, ?_⟩
  rw [hks]
  exact run_fnk F hr hb hx I2 .nil rz q2
/-- all by keywords, in the parameters' own order -/
def kwG {α : Type} (us ws : List α) : List α := match us with | [] => ws | _ => []
theorem kw_binds {K : PySem.W.Frag} {x qual : Str} {st : Stmt} {f : Addr} {fd : FuncData} {ps : List Str} (F : Fun K x qual st f fd) (h0 : 0 < ps.length)
    (h : ∀ (kV doc pm : Value) (an : Option Addr) (cdv ct : Value) (us : List Value), us.length = ps.length → bindArgs (PySem.W.fnOf x qual (defArgs st) (defBody st) (defScope st) .none kV doc pm an cdv ct) ⟨[], ps.zip us⟩ = pure (ps.zip us)) : KBinds K fd ps ps kwG kwG := by
  obtain ⟨oc, od, kV, doc, pm, an, cdv, ct, osl, rfl, lk, hcd⟩ := F.ex
  refine ⟨fun s us ws _ hl => ?_, fun {vs us zs ws} r1 r2 => ?_⟩
  · cases us with
    | nil => exact .of_eq (h kV doc pm an cdv ct ws hl)
    | cons a t => exact absurd hl (by simp [kwG]; omega)
  · cases r1 with
    | nil => exact r2
    | cons a t => exact .nil
theorem pg_pair {i j : Nat} {x y : Str} {p1 p2 : Pos} {kk : Nat} (hc : X.calm = true) (hN : X.N.Nodup) (hi : X.N[i]? = some x) (hj : X.N[j]? = some y) (hx : Loc X.env.scope x) (hy : Loc X.env.scope y)
    (hf : X.fn x = true ∨ X.env.scope.names.lookup x = some .local := by first | exact .inl rfl | exact .inr rfl | assumption) (hf2 : X.fn y = true ∨ X.env.scope.names.lookup y = some .local := by first | exact .inl rfl | exact .inr rfl | assumption)
    (hn : (assignEach [Expr.Name x p1, .Name y p2] X.env).length = 2 := by rfl) (hst : (assignEach [Expr.Name x p1, .Name y p2] X.env).findIdx? (·.1) = none := by rfl)
    (hs : (assignEach [Expr.Name x p1, .Name y p2] X.env).map (·.2) = assign (.Name x p1) X.env :: (assignEach [Expr.Name y p2] X.env).map (·.2) := by rfl)
    (hs2 : (assignEach [Expr.Name y p2] X.env).map (·.2) = assign (.Name y p2) X.env :: (assignEach [] X.env).map (·.2) := by rfl) :
    PG X (.Tuple [.Name x p1, .Name y p2] kk pos) (gTup X.K 2 (gCons (gName i) (gCons (gName j) gNil))) :=
  pg_tup hc (pgs_cons (pg_name hN hi hx hf) (pgs_cons (pg_name hN hj hy hf2) pgs_nil hs2) hs) hn hst
theorem pe_gint {i : Int} (hg : Gl X x) (hm : ∃ t, X.mg x = some (.int i t)) (hd : (x == ("__debug__" : Str)) = false := by decide) : PE X (.Name x pos) (tC (.int i)) := by
  obtain ⟨t, hm⟩ := hm
  exact pe_glob hg hm ⟨_, rfl⟩ hd
end
theorem call_int1i {X : Cx} : CallR X (.type "int") (fun xs H Q => ∃ i, xs = [.int i] ∧ Q (.int i) H) := fun pins s σ H xs us Q I r h => call_int1 pins s σ H xs us Q I r (.inl h)
theorem call_int1b {X : Cx} : CallR X (.type "int") (fun xs H Q => ∃ k, xs = [.bl k] ∧ Q (.int (if k then 1 else 0)) H) := fun pins s σ H xs us Q I r h => call_int1 pins s σ H xs us Q I r (.inr h)
theorem call_len_list {X : Cx} : CallR X (.builtin "len") (fun xs H Q => ∃ p ys, xs = [.ref p] ∧ SqL X.K H p ys ∧ Q (.int ys.length) H) := fun pins s σ H xs us Q I r ⟨p, ys, e, h, q⟩ => call_len_seq pins s σ H xs us Q I r ⟨p, ys, e, .inl h, q⟩
/-- a goal at which the walker of readings stops -/
structure Stop (p : Prop) : Prop where
  h : p
theorem stop_eq {p : Prop} : Stop p = p := propext ⟨fun q => q.h, fun q => ⟨q⟩⟩
def tForS (wi : TI) (g : TG) (tb : TS) : TS := fun D σ H => wi σ H fun J H1 => Stop (∃ W : Nat → Nat → L2.St → Hp → Prop, (∃ m, W 0 m σ H1) ∧ ∀ i m σ H, W i m σ H →
  (J.stop i H ∧ D.nx σ H) ∨ (J.go i H ∧ ∃ N : L2.St → Hp → Prop, (∀ σ' H', N σ' H' → ∃ m', m' < m ∧ W (i + 1) m' σ' H') ∧ ∀ x H', J.yld i H x H' → g x σ H' fun σ2 H2 => tb { D with nx := N, ct := N, bk := D.nx } σ2 H2))
theorem tForS_eq (wi : TI) (g : TG) (tb : TS) : tForS wi g tb = tFor wi g tb := by
  funext D σ H
  unfold tForS tFor
  simp only [stop_eq]
theorem ps_forS {X : Cx} {tg iter : Expr} {body : List Stmt} {wi : TI} {g : TG} {tb : TS} {pos : Pos} (hp : PassesOwn (model X.prog X.w) X.A X.env X.xe) (hc : X.calm = true) (hi : PI X tg iter wi) (hg : PG X tg g) (hb : PSs X body tb)
    (hs : ∀ x, foldedSetIterable iter X.env x = pure x := by intro _; rfl) : PS X (.For tg iter body [] pos) (tForS wi g tb) := by
  rw [tForS_eq]
  exact ps_for hp hc hi hg hb hs
/-! ### heaps -/
theorem same_upd {H : Hp} {p : Addr} {o : HO} (h : H p = none) : Same H (upd H p o) := fun b u e => by rw [upd_ne (ne_of_none e h)]; exact e
theorem Same.upd {H H1 : Hp} {p : Addr} {o : HO} (s : Same H H1) (h : H1 p = none) : Same H (L2.upd H1 p o) := L2.Same.trans s (same_upd h)
theorem Same.free' {H H1 : Hp} (s : Same H H1) {p : Addr} (h : H1 p = none) : H p = none := L2.Same.free s h
/-- all but a is as it was -/
def But (a : Addr) (H H' : Hp) : Prop := ∀ b o, b ≠ a → H b = some o → H' b = some o
theorem But.refl {a : Addr} (H : Hp) : But a H H := fun _ _ _ h => h
theorem But.trans {a : Addr} {H H1 H2 : Hp} (x : But a H H1) (y : But a H1 H2) : But a H H2 := fun b o n h => y b o n (x b o n h)
theorem But.same {a : Addr} {H H1 : Hp} (x : Same H H1) : But a H H1 := fun b o _ h => x b o h
theorem But.set {a : Addr} {H : Hp} {o : HO} : But a H (upd H a o) := fun b u n h => by rw [upd_ne n]; exact h
theorem But.new {a : Addr} {H H1 : Hp} {p : Addr} {o : HO} (x : But a H H1) (h : H1 p = none) : But a H (upd H1 p o) := x.trans (But.same (same_upd h))
theorem size_le {n : Nat} (h : n ≤ 10000) : n ≤ sizeLine := by rw [sizeLine_eq]; omega
theorem size_lt {n : Nat} (h : n ≤ 10000) : n < sizeLine := by rw [sizeLine_eq]; omega
theorem iteD {c A B : Prop} [Decidable c] (h1 : c → A) (h2 : ¬ c → B) : if decide c = true then A else B := by
  by_cases h : c
  · rw [decide_eq_true h]; exact iteT (h1 h)
  · rw [decide_eq_false h]; exact iteF (h2 h)
theorem iteN {c A B : Prop} [Decidable c] (h1 : ¬ c → A) (h2 : c → B) : if (!decide c) = true then A else B := by
  by_cases h : c
  · rw [decide_eq_true h]; exact iteF (h2 h)
  · rw [decide_eq_false h]; exact iteT (h1 h)
theorem qbl {Q : VK} {b c : Bool} {H : Hp} (k : Q (.bl b) H) (e : c = b) : Q (.bl c) H := e ▸ k
theorem qint {Q : VK} {i j : Int} {H : Hp} (k : Q (.int i) H) (e : j = i) : Q (.int j) H := e ▸ k
theorem same_set {H H1 : Hp} {p : Addr} {o : HO} (s : Same H H1) (n : H p = none) : Same H (upd H1 p o) := fun b u e => by rw [upd_ne (ne_of_none e n)]; exact s b u e
theorem old_upd {H : Hp} {p a : Addr} {o u : HO} (n : H p = none) (h : H a = some u) : upd H p o a = some u := same_upd n _ _ h
theorem SqL.new {K : PySem.W.Frag} {H : Hp} {p a : Addr} {o : HO} {xs : List V} (n : H p = none) (h : SqL K H a xs) : SqL K (upd H p o) a xs := L2.Same.seq (same_upd n) h
theorem tyl_new {K : PySem.W.Frag} {H : Hp} {p a : Addr} {o : HO} {xs : List V} (h : H a = some (.lst xs)) (n : H p = none) : tyV K "list" (.ref a) (upd H p o) := Or.inl ⟨rfl, xs, SqL.of (old_upd n h)⟩
theorem tyl_of {K : PySem.W.Frag} {H : Hp} {a : Addr} {xs : List V} (h : H a = some (.lst xs)) : tyV K "list" (.ref a) H := Or.inl ⟨rfl, xs, SqL.of h⟩
theorem same_at {H H' : Hp} {a : Addr} {u : HO} (s : Same H H') (h : H a = some u) : H' a = some u := s _ _ h
theorem same_trans' {H H1 H2 : Hp} (b : Same H1 H2) (a : Same H H1) : Same H H2 := L2.Same.trans a b
/-! ### comprehensions that keep what stood -/
theorem lc_mapS {K : PySem.W.Frag} {a : Addr} {xs : List V} {g : TG} {te : TE} {vs : List Nat} {σ : L2.St} {H1 : Hp} {D : Addr} {Qd : Hp → Prop} (ys : List V) (ha : SqL K H1 a xs) (hD : H1 D = none) (hl : xs.length = ys.length) (hz : xs.length ≤ 10000)
    (hs : ∀ (i : Nat) (x y : V) (H' : Hp) (Q : VK), xs[i]? = some x → ys[i]? = some y → Same H1 H' → (∀ H'', Same H' H'' → Q y H'') → g x (wipe σ vs) H' fun σ2 H2 => wipe σ2 vs = wipe σ vs ∧ te σ2 H2 Q)
    (hd : ∀ H', Same H1 H' → H' D = some (.lst ys) → Qd H') :
    ∃ W : Nat → Nat → Hp → Prop, (∃ m, W 0 m (upd H1 D (.lst []))) ∧ ∀ i m H, W i m H →
      ((Itl K a).stop i H ∧ Qd H) ∨ ((Itl K a).go i H ∧ ∃ Nx : Hp → Prop, (∀ H', Nx H' → ∃ m', m' < m ∧ W (i + 1) m' H') ∧ ∀ x H', (Itl K a).yld i H x H' → g x (wipe σ vs) H' fun σ2 H2 => wipe σ2 vs = wipe σ vs ∧ tYes σ2 H2 fun b H3 =>
        if b = true then te σ2 H3 fun y H4 => ∃ acc, H4 D = some (.lst acc) ∧ acc.length < sizeLine ∧ Nx (upd H4 D (.lst (acc ++ [y]))) else Nx H3) := by
  refine lc_list (xs := xs) (fun i H => Same H1 H ∧ H D = some (.lst (ys.take i))) ⟨same_upd hD, upd_same⟩ (fun i H _ h => L2.Same.seq h.1 ha) (fun i x H hx h => ?_) (fun H h => hd H h.1 (by rw [h.2, List.take_of_length_le (by omega)]))
  have hi : i < ys.length := by have := (List.getElem?_eq_some_iff.mp hx).1; omega
  refine hs i x ys[i] H _ hx (List.getElem?_eq_getElem hi) h.1 (fun H'' s => ?_)
  refine ⟨ys.take i, s _ _ h.2, size_lt (by simp; omega), same_set (L2.Same.trans h.1 s) hD, ?_⟩
  rw [upd_same, List.take_add_one, List.getElem?_eq_getElem hi]; rfl
theorem lc_mapZ {K : PySem.W.Frag} {a b : Addr} {xs zs : List V} {g : TG} {te : TE} {vs : List Nat} {σ : L2.St} {H1 : Hp} {D : Addr} {Qd : Hp → Prop} (ys : List V) (ha : SqL K H1 a xs) (hb : SqL K H1 b zs) (hD : H1 D = none) (hl : xs.length = ys.length) (hl2 : xs.length = zs.length) (hz : xs.length ≤ 10000)
    (hs : ∀ (i : Nat) (x z y : V) (T : Addr) (H' : Hp) (Q : VK), xs[i]? = some x → zs[i]? = some z → ys[i]? = some y → Same H1 H' → H' T = none → (∀ H'', Same (upd H' T (.tup [x, z])) H'' → Q y H'') → g (.ref T) (wipe σ vs) (upd H' T (.tup [x, z])) fun σ2 H2 => wipe σ2 vs = wipe σ vs ∧ te σ2 H2 Q)
    (hd : ∀ H', Same H1 H' → H' D = some (.lst ys) → Qd H') :
    ∃ W : Nat → Nat → Hp → Prop, (∃ m, W 0 m (upd H1 D (.lst []))) ∧ ∀ i m H, W i m H →
      ((Itz K a b).stop i H ∧ Qd H) ∨ ((Itz K a b).go i H ∧ ∃ Nx : Hp → Prop, (∀ H', Nx H' → ∃ m', m' < m ∧ W (i + 1) m' H') ∧ ∀ x H', (Itz K a b).yld i H x H' → g x (wipe σ vs) H' fun σ2 H2 => wipe σ2 vs = wipe σ vs ∧ tYes σ2 H2 fun b H3 =>
        if b = true then te σ2 H3 fun y H4 => ∃ acc, H4 D = some (.lst acc) ∧ acc.length < sizeLine ∧ Nx (upd H4 D (.lst (acc ++ [y]))) else Nx H3) := by
  refine lc_it (walk_zip (xs := xs) (ys := zs) (n := xs.length) (by omega)) (fun i H => Same H1 H ∧ H D = some (.lst (ys.take i))) ⟨same_upd hD, upd_same⟩ (fun i H _ h => ⟨L2.Same.seq h.1 ha, L2.Same.seq h.1 hb⟩) (fun i x H H' hi h y => ?_) (fun H h => hd H h.1 (by rw [h.2, List.take_of_length_le (by omega)]))
  obtain ⟨T, x', z', rfl, hT, rfl, hx, hz'⟩ := y
  have hi' : i < ys.length := by omega
  refine hs i x' z' ys[i] T H _ hx hz' (List.getElem?_eq_getElem hi') h.1 hT (fun H'' s => ?_)
  refine ⟨ys.take i, s _ _ (old_upd hT h.2), size_lt (by simp; omega), same_set (L2.Same.trans (Same.upd h.1 hT) s) hD, ?_⟩
  rw [upd_same, List.take_add_one, List.getElem?_eq_getElem hi']; rfl
/-! ### two lists of the same ints -/
theorem dp_ints {K : PySem.W.Frag} {H : Hp} : ∀ ns : List Int, DpAll K H (ns.map V.int) (ns.map PyData.int)
  | [] => .nil
  | n :: r => .cons (.int n) (dp_ints r)
theorem sh_ints (ns : List Int) : SeqAt.shaped (.list (ns.map PyData.int)) = true := PySem.W.shaped_ints ns
theorem eqv_ints (ns : List Int) : PyData.eqv (.list (ns.map PyData.int)) (.list (ns.map PyData.int)) = true := SeqAt.eqv_refl _ (SeqAt.canLay_of_shaped (sh_ints ns))
theorem op_eqLI {X : Cx} (hu : X.A.units + 64 < cLine) : OpR X (compareOp .Eq) (fun x y H Q => ∃ (p q : Addr) (ns : List Int), x = .ref p ∧ y = .ref q ∧ SqL X.K H p (ns.map V.int) ∧ SqL X.K H q (ns.map V.int) ∧ Q (.bl true) H) := by
  intro pins s σ H x y v u Q I rx ry ⟨p, q, ns, e1, e2, h1, h2, k⟩
  refine op_eqD hu pins s σ H x y v u Q I rx ry ⟨.list (ns.map PyData.int), .list (ns.map PyData.int), ?_, ?_, ?_, ?_, ?_⟩
  · rw [e1]; exact .lst h1 (dp_ints ns)
  · rw [e2]; exact .lst h2 (dp_ints ns)
  · exact sh_ints ns
  · exact sh_ints ns
  · rw [eqv_ints]; exact k
theorem op_neLI {X : Cx} (hu : X.A.units + 64 < cLine) : OpR X (compareOp .NotEq) (fun x y H Q => ∃ (p q : Addr) (ns : List Int), x = .ref p ∧ y = .ref q ∧ SqL X.K H p (ns.map V.int) ∧ SqL X.K H q (ns.map V.int) ∧ Q (.bl false) H) := by
  intro pins s σ H x y v u Q I rx ry ⟨p, q, ns, e1, e2, h1, h2, k⟩
  refine op_neD hu pins s σ H x y v u Q I rx ry ⟨.list (ns.map PyData.int), .list (ns.map PyData.int), ?_, ?_, ?_, ?_, ?_⟩
  · rw [e1]; exact .lst h1 (dp_ints ns)
  · rw [e2]; exact .lst h2 (dp_ints ns)
  · exact sh_ints ns
  · exact sh_ints ns
  · rw [eqv_ints]; exact k
/-! ### the pot -/
structure Pot (H : Hp) (a : Addr) : Prop where
  ex : ∃ x y : Int, H a = some (.lst [.int x, .int y]) ∧ 0 ≤ x ∧ 0 ≤ y ∧ y < 4294967296
theorem Pot.same {H H' : Hp} {a : Addr} (s : Same H H') (h : Pot H a) : Pot H' a := by
  obtain ⟨x, y, e, r⟩ := h
  exact ⟨x, y, s _ _ e, r⟩
theorem Pot.new {H : Hp} {a p : Addr} {o : HO} (h : Pot H a) (n : H p = none) : Pot (upd H p o) a := h.same (same_upd n)
theorem Pot.ne {H : Hp} {a p : Addr} (h : Pot H a) (n : H p = none) : p ≠ a := by
  obtain ⟨x, y, e, r⟩ := h
  exact fun z => by rw [z, e] at n; cases n
theorem mulw {i j : Int} {a b : Nat} (ha : i.natAbs < 2 ^ a) (hb : j.natAbs < 2 ^ b) (h0 : 0 < a := by decide) (h1 : 0 < b := by decide) (h : a + b ≤ 1000000 := by decide) : CMulW i j := wide_mul ha hb h0 h1 h
theorem mulw64 {i j : Int} (ha : i.natAbs < 18446744073709551616) (hb : j.natAbs < 18446744073709551616) : CMulW i j := wide_mul (a := 64) (b := 64) ha hb (by decide) (by decide) (by decide)
theorem pick_at {xs : List V} {d : Int} (h0 : 0 ≤ d) (h1 : d < xs.length) : ∃ v, atI xs d = some v ∧ v ∈ xs := by
  have hd : d.toNat < xs.length := by omega
  exact ⟨xs[d.toNat], at_of (j := d.toNat) (by omega) (List.getElem?_eq_getElem hd), List.getElem_mem hd⟩
theorem take_fold {α β : Type} {f : β → α → β} {z : β} {l : List α} {i : Nat} {x : α} (h : l[i]? = some x) : (l.take (i + 1)).foldl f z = f ((l.take i).foldl f z) x := by
  rw [List.take_add_one, h, Option.toList_some, List.foldl_append]; rfl
theorem int_get {ns : List Int} {i : Nat} {x : V} (h : (ns.map V.int)[i]? = some x) : ∃ z, x = .int z ∧ ns[i]? = some z := by
  rw [List.getElem?_map] at h
  obtain ⟨z, hz, e⟩ := Option.map_eq_some_iff.mp h
  exact ⟨z, e.symm, hz⟩
/-- called with the pot and how many: a number below that, and the pot is still one -/
def spDraw : Sp := fun vs H Q _ => ∃ (a : Addr) (n : Int), vs = [.ref a, .int n] ∧ Pot H a ∧ 0 < n ∧ n < 1073741824 ∧
  ∀ (d : Int) (H' : Hp), 0 ≤ d → d < n → Pot H' a → But a H H' → Q (.int d) H'
end Hx

set_option Elab.async false
set_option linter.all false
set_option maxRecDepth 100000
set_option maxHeartbeats 4000000
namespace Hx
open PySem PySem.Spec PyProof.Rows L2
/-! ### own rules for objects and errors -/
def kwM {α : Type} (us ws : List α) : List α := match us with | [x] => x :: ws | _ => []
theorem kw_bindsM {K : PySem.W.Frag} {x qual : Str} {st : Stmt} {f : Addr} {fd : FuncData} {ps : List Str} (F : Fun K x qual st f fd) (h0 : 0 < ps.length)
    (h : ∀ (kV doc pm : Value) (an : Option Addr) (cdv ct : Value) (u : Value) (us : List Value), us.length = ps.tail.length → bindArgs (PySem.W.fnOf x qual (defArgs st) (defBody st) (defScope st) .none kV doc pm an cdv ct) ⟨[u], ps.tail.zip us⟩ = pure (ps.zip (u :: us))) : KBinds K fd ps ps.tail kwM kwM := by
  obtain ⟨oc, od, kV, doc, pm, an, cdv, ct, osl, rfl, lk, hcd⟩ := F.ex
  refine ⟨fun s us ws _ hl => ?_, fun {vs us zs ws} r1 r2 => ?_⟩
  · match us, hl with
    | [], hl => exact absurd hl (by simp [kwM]; omega)
    | [u], hl => exact .of_eq (h kV doc pm an cdv ct u ws (by simp [kwM] at hl ⊢; omega))
    | _ :: _ :: _, hl => exact absurd hl (by simp [kwM]; omega)
  · cases r1 with
    | nil => exact .nil
    | cons a t =>
      cases t with
      | nil => exact .cons a r2
      | cons b t => exact .nil
section
variable {X : Cx} {CX : CXT} {k : Nat} {f C : Addr} {fd : FuncData} {ps ks : List Str} {sp : Sp} {E : L2.St → XK} {E1 : XK} {x m : Str} {p pos apos : Pos} {e o : Expr} {es : List Expr} {ta : TE} {t tk : TA} {kws : List Keyword} {g : List Value → List Value → List Value} {gV : List V → List V → List V}
def tMethA (C : Addr) (m : Str) (sp : Sp) (E : L2.St → XK) (ta : TE) (t : TA) : TE := fun σ H Q => ta σ H fun x H1 => ∃ a dx fs, x = .ref a ∧ H1 a = some (.ins C dx fs) ∧ fs.lookup m = none ∧ t σ H1 fun vs H2 => sp (x :: vs) H2 Q (E σ)
/-- o.m(e, ..) that may raise, within a try -/
theorem pe_methA {E : L2.St → XK} {pl : Sem Bool} (he : PE X o ta) (c : Cls X.K C) (hm : Meth X.K C m f) (F : FnOk X.prog X.w X.K X.mg X.base CX k f fd ps sp) (hr : Room k X.A) (hb : Binds X.K fd ps []) (hx : ∀ σ, PassesAt CX X σ (E σ)) (ha : PA X (e :: es) t)
    (hst : starEach (e :: es) X.env = (false, eval e X.env) :: starEach es X.env := by rfl) (hpl : (backTo pos (starEach es X.env)).any (·.1) = false := by rfl)
    (ht : eval (.Call (.Attribute o m apos) (e :: es) [] pos) X.env = (do
      let ov ← eval o X.env
      standAt apos.atName
      let (f, first) ← holding [ov] (getMethod ov m pl)
      callWith pos f first (backTo pos (starEach (e :: es) X.env)) (backToKw pos (keywordEach [] X.env))) := by rfl) :
    PE X (.Call (.Attribute o m apos) (e :: es) [] pos) (tMethA C m sp E ta t) := by
  refine ⟨fun pins s σ H Q I h => ?_⟩
  refine PySem.W.methodCall_KW (pl := pl) (thn (he.run pins s σ H _ I h) fun u s1 ⟨x, H1, I1, rx, a, dx, fs, ex, ea, l, q⟩ => ?_) ht
  subst ex
  obtain rfl : u = Value.ref a := rx
  refine getmeth_ok I1 ea c hm l ?_
  refine PySem.W.callWith_K (first := [.ref a]) (h₀ := X.base) I.ok.mod.kin hm.kp (thn (ha.run pos pins s1 σ H1 _ I1 q) fun us s2 ⟨vs, H2, I2, r, q2⟩ => ⟨I2.kIn, ?_⟩) hst hpl
  exact run_fnS (us := .ref a :: us) (vs := .ref a :: vs) F hr hb (hx σ) I2 (.cons rfl r) q2
def tMethK (C : Addr) (m : Str) (sp : Sp) (gV : List V → List V → List V) (E : XK) (ta : TE) (tk : TA) : TE := fun σ H Q => ta σ H fun x H1 => ∃ a dx fs, x = .ref a ∧ H1 a = some (.ins C dx fs) ∧ fs.lookup m = none ∧ tk σ H1 fun zs H2 => sp (gV [x] zs) H2 Q E
/-- o.m(k=e, ..) -/
theorem pe_methKA {pl : Sem Bool} (he : PE X o ta) (c : Cls X.K C) (hm : Meth X.K C m f) (F : FnOk X.prog X.w X.K X.mg X.base CX k f fd ps sp) (hr : Room k X.A) (hb : KBinds X.K fd ps ks g gV) (hx : Passes CX X E1)
    (hkw : PK X kws tk) (hall : (backToKw pos (keywordEach kws X.env)).all (·.1.isSome) = true := by rfl) (hks : (backToKw pos (keywordEach kws X.env)).filterMap (·.1) = ks := by rfl)
    (hpl : ((backTo pos (starEach [] X.env)).any (·.1) || (backToKw pos (keywordEach kws X.env)).any (·.1.isNone)) = false := by rfl)
    (ht : eval (.Call (.Attribute o m apos) [] kws pos) X.env = (do
      let ov ← eval o X.env
      standAt apos.atName
      let (f, first) ← holding [ov] (getMethod ov m pl)
      callWith pos f first (backTo pos (starEach [] X.env)) (backToKw pos (keywordEach kws X.env))) := by rfl) :
    PE X (.Call (.Attribute o m apos) [] kws pos) (tMethK C m sp gV E1 ta tk) := by
  refine ⟨fun pins s σ H Q I h => ?_⟩
  refine PySem.W.methodCall_KW (pl := pl) (thn (he.run pins s σ H _ I h) fun u s1 ⟨x, H1, I1, rx, a, dx, fs, ex, ea, l, q⟩ => ?_) ht
  subst ex
  obtain rfl : u = Value.ref a := rx
  refine getmeth_ok I1 ea c hm l ?_
  refine PySem.W.callWith_KW0 (first := [.ref a]) (h₀ := X.base) I.ok.mod.kin hm.kp hall ?_ hpl
  refine thn (hkw.run pos pins s1 σ H1 _ I1 q) fun ws s2 ⟨zs, H2, I2, rz, q2⟩ => ⟨I2.kIn, ?_⟩
  rw [hks]
  exact run_fnk (us := [.ref a]) (vs := [.ref a]) F hr hb hx I2 (.cons rfl .nil) rz q2
theorem PI.or {tg iter : Expr} {w1 w2 : TI} (h1 : PI X tg iter w1) (h2 : PI X tg iter w2) : PI X tg iter (fun σ H R => w1 σ H R ∨ w2 σ H R) := ⟨fun pins s σ H R I h => h.elim (h1.run pins s σ H R I) (h2.run pins s σ H R I)⟩
end
theorem exm_self {K : PySem.W.Frag} {S : Addr} (h1 : PySem.W.subIn K (.ref S) (.type "BaseException") = some true) (h2 : PySem.W.isClsIn K S = true) (h3 : PySem.W.typeIn K (.ref S) = some (.type "type")) (h4 : PySem.W.subIn K (.ref S) (.ref S) = some true) :
    PySem.W.exmOne K (.ref S) (.ref S) = some true := by
  have e1 : (PySem.W.subIn K (.ref S) (.type "BaseException") == some true) = true := by rw [h1] <;> rfl
  have e2 : ((PySem.W.clsIn K S).isSome && PySem.W.typeIn K (.ref S) == some (.type "type")) = true := by
    have h2' : (PySem.W.clsIn K S).isSome = true := h2
    rw [h2', h3] <;> rfl
  show (if (PySem.W.subIn K (.ref S) (.type "BaseException") == some true) = true then (if ((PySem.W.clsIn K S).isSome && PySem.W.typeIn K (.ref S) == some (.type "type")) = true then PySem.W.subIn K (.ref S) (.ref S) else none) else none) = some true
  rw [if_pos e1, if_pos e2]
  exact h4
def tStop (t : TS) : TS := fun D σ H => t { D with nx := fun σ H => Stop (D.nx σ H) } σ H
theorem ps_stop {X : Cx} {st : Stmt} {t : TS} (h : PS X st t) : PS X st (tStop t) := by
  have e : tStop t = t := by
    funext D σ H
    unfold tStop
    simp only [stop_eq]
  rw [e]
  exact h
theorem lc_mapT {K : PySem.W.Frag} {a : Addr} {xs : List V} {g : TG} {te : TE} {vs : List Nat} {σ : L2.St} {H1 : Hp} {D : Addr} {Qd : Hp → Prop} (ys : List V) (ha : SqT K H1 a xs) (hD : H1 D = none) (hl : xs.length = ys.length) (hz : xs.length ≤ 10000)
    (hs : ∀ (i : Nat) (x y : V) (H' : Hp) (Q : VK), xs[i]? = some x → ys[i]? = some y → Same H1 H' → (∀ H'', Same H' H'' → Q y H'') → g x (wipe σ vs) H' fun σ2 H2 => wipe σ2 vs = wipe σ vs ∧ te σ2 H2 Q)
    (hd : ∀ H', Same H1 H' → H' D = some (.lst ys) → Qd H') :
    ∃ W : Nat → Nat → Hp → Prop, (∃ m, W 0 m (upd H1 D (.lst []))) ∧ ∀ i m H, W i m H →
      ((Itt K a).stop i H ∧ Qd H) ∨ ((Itt K a).go i H ∧ ∃ Nx : Hp → Prop, (∀ H', Nx H' → ∃ m', m' < m ∧ W (i + 1) m' H') ∧ ∀ x H', (Itt K a).yld i H x H' → g x (wipe σ vs) H' fun σ2 H2 => wipe σ2 vs = wipe σ vs ∧ tYes σ2 H2 fun b H3 =>
        if b = true then te σ2 H3 fun y H4 => ∃ acc, H4 D = some (.lst acc) ∧ acc.length < sizeLine ∧ Nx (upd H4 D (.lst (acc ++ [y]))) else Nx H3) := by
  refine lc_tup (xs := xs) (fun i H => Same H1 H ∧ H D = some (.lst (ys.take i))) ⟨same_upd hD, upd_same⟩ (fun i H _ h => ha.elim (fun r => r.elim (fun e => .inl (.inl (h.1 _ _ e))) (fun ⟨o, e⟩ => .inl (.inr ⟨o, h.1 _ _ e⟩))) .inr) (fun i x H hx h => ?_) (fun H h => hd H h.1 (by rw [h.2, List.take_of_length_le (by omega)]))
  have hi : i < ys.length := by have := (List.getElem?_eq_some_iff.mp hx).1; omega
  refine hs i x ys[i] H _ hx (List.getElem?_eq_getElem hi) h.1 (fun H'' s => ?_)
  refine ⟨ys.take i, s _ _ h.2, size_lt (by simp; omega), same_set (L2.Same.trans h.1 s) hD, ?_⟩
  rw [upd_same, List.take_add_one, List.getElem?_eq_getElem hi]; rfl
/-! ### two things of the same data -/
def FlatD (n : Nat) (d : PyData) : Prop := d.canLay0 = true ∧ d.depth ≤ n
theorem flat_all {n : Nat} : ∀ ds : List PyData, (∀ d ∈ ds, FlatD n d) → PyData.canLayAll0 ds = true ∧ PyData.depthAll ds ≤ n
  | [], _ => by simp [PyData.canLayAll0, PyData.depthAll]
  | d :: r, h => by
    have i := flat_all r fun x hx => h x (List.mem_cons_of_mem _ hx)
    have j := h d List.mem_cons_self
    unfold FlatD at j
    simp only [PyData.canLayAll0, PyData.depthAll, j.1, i.1, Bool.and_self, true_and]
    omega
theorem flat_list {n : Nat} {ds : List PyData} (h : ∀ d ∈ ds, FlatD n d) : FlatD (n + 1) (.list ds) := by
  have i := flat_all ds h
  exact ⟨by simp only [PyData.canLay0]; exact i.1, by simp only [PyData.depth]; omega⟩
theorem flat_tup {n : Nat} {ds : List PyData} (h : ∀ d ∈ ds, FlatD n d) : FlatD (n + 1) (.tuple ds) := by
  have i := flat_all ds h
  exact ⟨by simp only [PyData.canLay0]; exact i.1, by simp only [PyData.depth]; omega⟩
theorem flat_int (n : Nat) (i : Int) : FlatD n (.int i) := ⟨by simp [PyData.canLay0], by simp [PyData.depth]⟩
theorem flat_sh {n : Nat} {d : PyData} (h : FlatD n d) (hn : n ≤ 64 := by decide) : SeqAt.shaped d = true := by
  show (PyData.canLay0 d && decide (PyData.depth d ≤ 64)) = true
  rw [Bool.and_eq_true]
  exact ⟨h.1, decide_eq_true (Nat.le_trans h.2 hn)⟩
theorem op_eqS {X : Cx} (hu : X.A.units + 64 < cLine) : OpR X (compareOp .Eq) (fun x y H Q => ∃ d, Dp X.K H x d ∧ Dp X.K H y d ∧ SeqAt.shaped d = true ∧ Q (.bl true) H) := by
  intro pins s σ H x y v u Q I rx ry ⟨d, h1, h2, hs, k⟩
  refine op_eqD hu pins s σ H x y v u Q I rx ry ⟨d, d, h1, h2, hs, hs, ?_⟩
  rw [SeqAt.eqv_refl d (SeqAt.canLay_of_shaped hs)]; exact k
theorem op_neS {X : Cx} (hu : X.A.units + 64 < cLine) : OpR X (compareOp .NotEq) (fun x y H Q => ∃ d, Dp X.K H x d ∧ Dp X.K H y d ∧ SeqAt.shaped d = true ∧ Q (.bl false) H) := by
  intro pins s σ H x y v u Q I rx ry ⟨d, h1, h2, hs, k⟩
  refine op_neD hu pins s σ H x y v u Q I rx ry ⟨d, d, h1, h2, hs, hs, ?_⟩
  rw [SeqAt.eqv_refl d (SeqAt.canLay_of_shaped hs)]; exact k
/-- the only error's __init__: self.value = value -/
def spEI (C : Addr) : Sp := fun vs H Q _ => ∃ (a : Addr) (v : V), vs = [.ref a, v] ∧ H a = some (exo a C none) ∧ ∀ dx, H dx = none → dx ≠ a → Q .non (upd (upd H dx (exd dx [("value", v)])) a (exo a C (some dx)))
theorem ei_same {H : Hp} {a dx C : Addr} {fs : List (Str × V)} {o u : HO} (ha : H a = none) (hd : upd H a o dx = none) (ne : dx ≠ a) :
    Same H (upd (del (upd (upd (upd H a o) dx u) a (exo a C (some dx))) a) dx (.xd fs)) := fun b v e => by
  have n1 : b ≠ a := ne_of_none e ha
  have n2 : b ≠ dx := by
    intro z
    rw [z] at e
    rw [upd_ne ne] at hd
    rw [hd] at e
    cases e
  rw [upd_ne n2, del_ne n1, upd_ne n1, upd_ne n2, upd_ne n1]
  exact e
end Hx

set_option Elab.async false
set_option linter.all false
set_option maxRecDepth 100000
set_option maxHeartbeats 4000000
namespace Hx
open PySem PySem.Spec PyProof.Rows L2
/-! ### promises of defs under which no repr is under way -/
/-- as FnOk, for calls around which nothing is being written out -/
structure FnG (P : Program) (w : World) (K : PySem.W.Frag) (mg : Str → Option Value) (base : Heap) (k : Nat) (f : Addr) (fd : FuncData) (ps : List Str) (sp : Sp) : Prop where
  len : ∀ vs H Q E, sp vs H Q E → vs.length = ps.length
  run : ∀ (A : Around) (outer : List Env) (s : Shared) (H : Hp) (args : Args) (us : List Value) (vs : List V) (Q : VK) (E : XK), A.guards = some [] → Room k A → Env0 P w K mg base A outer s H → BindsTo s fd args (ps.zip us) → Vals vs us → sp vs H Q E →
    codeAny (model P w) A (.call (.ref f) args) (CR CX0 outer P w H s Q E) s
theorem FnG.mono {P : Program} {w : World} {K : PySem.W.Frag} {mg : Str → Option Value} {base : Heap} {j k : Nat} {f : Addr} {fd : FuncData} {ps : List Str} {sp : Sp} (F : FnG P w K mg base j f fd ps sp) (h : j ≤ k) : FnG P w K mg base k f fd ps sp :=
  ⟨F.len, fun A o s H a us vs Q E g r => F.run A o s H a us vs Q E g (r.mono h)⟩
theorem fnG {P : Program} {w : World} {K : PySem.W.Frag} {mg : Str → Option Value} {base : Heap} {x qual : Str} {st : Stmt} {f : Addr} {fd : FuncData} {N ps : List Str} {k : Nat} {sp : Sp} (F : Fun K x qual st f fd) (S : FnScope N ps (defScope st)) (len : ∀ vs H Q E, sp vs H Q E → vs.length = ps.length)
    (hbody : ∀ (cdv : Value) (A : Around) (outer : List Env) (s : Shared) (H : Hp) (vs : List V) (Q : VK) (E : XK), Room k (A.deeper (envOfC qual (defScope st) s.heap.objs.size f cdv)) → (A.deeper (envOfC qual (defScope st) s.heap.objs.size f cdv)).guards = some [] → sp vs H Q E →
      ∃ t, PSs (cxOf CX0 P w K mg base N qual (defScope st) f cdv A outer s H E).nox (defBody st) t ∧ t { nx := fun _ H' => Q .non H', rt := Q } (start N vs) H) : FnG P w K mg base (k + 1) f fd ps sp := by
  obtain ⟨oc, od, kV, doc, pm, an, cdv, ct, osl, rfl, lk, hcd⟩ := F.ex
  constructor
  · exact len
  intro A outer s H args us vs Q E hg hr e0 hb r hsp
  have old := fun b o e => (e0.bs b o e).1
  have KX := e0.mod.kin.keeps old
  have lim := e0.mod.nolimit.keeps old
  apply codeAny_call_function hr.depth (KX _ _ lk) rfl S.co S.gen rfl (PySem.W.codeRec_of KX hcd)
  apply hb
  apply wpAny_newFunctionEnv_cells S.kind
  · intro y hy
    exact (S.par y.1 (List.of_mem_zip hy).1).imp id fun q => ⟨q, PySem.W.cellsFrom_some _ _ _ (.inl q)⟩
  intro env he s1 x
  subst he
  refine ⟨lim.keeps x.toInCall.keep, codeAny_func ?_⟩
  obtain ⟨t, ht, hq⟩ := hbody cdv A outer s H vs Q E (hr.deeper _) hg hsp
  have I := inv_start (CX := CX0) (E := E) (base := base) S hr.hd e0 (len _ _ _ _ hsp) r x
  refine wpAny_mono (ht.nox.run [] s1 _ H _ I hq) (fun fl s' hs => ?_) fun e s' hs => hs
  match fl, hs with
  | .ret u, ⟨v, _, H', J, rv, q⟩ => exact ⟨v, H', J.os, J.bare, J.base, J.hok, rv, q⟩
  | .next, ⟨_, H', J, q⟩ => exact ⟨V.non, H', J.os, J.bare, J.base, J.hok, rfl, q⟩
  | .brk, ⟨_, _, _, q⟩ => exact q.elim
  | .cont, ⟨_, _, _, q⟩ => exact q.elim
section
variable {X : Cx} {k : Nat} {f : Addr} {fd : FuncData} {ps : List Str} {sp : Sp} {E : XK} {x : Str} {p pos : Pos} {e : Expr} {es : List Expr} {t : TA}
/-- f(e, ..) of such a def -/
theorem pe_callG (hu : X.A.guards = some []) (F : FnG X.prog X.w X.K X.mg X.base k f fd ps sp) (hr : Room k X.A) (hg : Gl X x) (hm : X.mg x = some (.ref f)) (hk : PySem.W.keepIn X.K (.ref f) = true) (hb : Binds X.K fd ps [])
    (ha : PA X (e :: es) t) (hdb : (x == ("__debug__" : Str)) = false := by decide) (he : starEach (e :: es) X.env = (false, eval e X.env) :: starEach es X.env := by rfl) (hpl : (backTo pos (starEach es X.env)).any (·.1) = false := by rfl) :
    PE X (.Call (.Name x p) (e :: es) [] pos) (tCall sp [] E t) := by
  constructor
  intro pins s σ H Q I h
  apply wpAny_Call_Name_kw (ld_glob I hg hm ?_ hdb)
  refine PySem.W.callWith_K (h₀ := X.base) I.ok.mod.kin hk (thn (ha.run pos pins s σ H _ I h) fun us s1 ⟨vs, H1, I1, r, q⟩ => ⟨I1.kIn, ?_⟩) he hpl
  have q : sp (vs ++ []) H1 Q E := q
  rw [List.append_nil] at q
  have hl : us.length = ps.length := by rw [← r.length]; exact F.len _ _ _ _ q
  have b := hb s1 us I1.kIn (by rw [List.append_nil]; exact hl)
  rw [List.append_nil] at b
  refine wpAny_call (codeAny_mono (F.run X.A X.stack s1 H1 ⟨us, []⟩ us vs Q E hu hr I1.env0 b r q) fun r s' hq => ?_)
  match r, hq with
  | .ok (.ret u), hq => exact I1.after hq
  | .error e, hq => exact False.elim hq
  | .ok .next, hq => exact False.elim hq
  | .ok .brk, hq => exact False.elim hq
  | .ok .cont, hq => exact False.elim hq
/-- repr of a list, a tuple, of things that show -/
theorem call_reprG (hg : X.A.guards = some []) (hr : Room 0 X.A) : CallR X (.builtin "repr") (fun xs H Q => ∃ (a : Addr) (d : PyData), xs = [.ref a] ∧ Dp X.K H (.ref a) d ∧ d.showable = true ∧ d.hasDict = false ∧ d.depth ≤ 64 ∧ d.shown.length ≤ sizeLine ∧ Q (.str d.shown) H) := by
  intro pins s σ H xs us Q I r h
  obtain ⟨a, d, rfl, hd, hs, hn, hp, hz, q⟩ := h
  rw [Vals.ref1 r]
  obtain ⟨as, hR⟩ := Dp.reads I d _ (.ref a) hd rfl
  have hu := hr.un
  exact repr_of_reads' hR hs (fun z => by rw [hn] at z; cases z) hg (by omega) (fun _ _ e => e) (fun h' u tk hk => ⟨.str _, H, I.kept hk, ⟨_, rfl⟩, q⟩) hz
end
theorem call_repr_bl {X : Cx} : CallR X (.builtin "repr") (fun xs H Q => ∃ b : Bool, xs = [.bl b] ∧ Q (.str (if b then "True" else "False")) H) := by
  intro pins s σ H xs us Q I r h
  obtain ⟨b, rfl, q⟩ := h
  cases r with
  | cons ru rn =>
    cases rn
    cases ru
    exact PySem.P.repr_of_bool ⟨.str _, H, I.tok _, ⟨_, rfl⟩, q⟩
/-! ### the head's call of such a law -/
theorem law_callG {P : Program} {w : World} {K : PySem.W.Frag} {mg mb : Str → Option Value} {k : Nat} {fa a : Addr} {fd : FuncData} {x : Str} {sp : Sp} {s : Shared} {vs : List Value} {ns : List Int}
    (KX : K.In s.heap) (hns : s.heap.Ns mainGlobals mg) (hb : s.heap.Ns builtinsNs mb) (hbb : ∀ x : Str, x ≠ "__name__" → mb x = bootBuiltins x) (hlim : s.heap.NoLimit) (hg : s.gens = #[])
    (ha : s.heap.get? a = some { cls := .type "list", data := .seq vs.toArray }) (hi : IntsAre vs ns) (hl : ns.length ≤ sizeLine) (hr : Room k callerA)
    (F : ∀ base : Heap, K.In base → base.Ns mainGlobals mg → FnG P w K mg base k fa fd [x] sp) (hbind : ∀ (s : Shared) (u : Value), BindsTo s fd ⟨[u], []⟩ [(x, u)])
    (hsp : ∀ H : Hp, Only H → SqL K H a (ns.map V.int) → sp [.ref a] H (fun v _ => v = .bl true) fun _ _ _ => False) :
    codeAny (model P w) callerA (.call (.ref fa) ⟨[.ref a], []⟩) (fun r s' => r = .ok (.ret (.bool true)) ∧ OldK s.heap s'.heap ∧ s'.os = s.os ∧ AllBare s'.gens) s := by
  let fz : HO := .frz { cls := .type "list", data := .seq vs.toArray } (.lst (ns.map V.int))
  let H : Hp := fun b => if b = a ∧ K.lookup a = none then some fz else none
  have rv := vals_ints hi
  have hH : ∀ {b : Addr} {u : HO}, H b = some u → b = a ∧ K.lookup a = none ∧ u = fz := fun {b u} z => by
    by_cases q : b = a ∧ K.lookup a = none
    · have z' := (if_pos q).symm.trans z
      exact ⟨q.1, q.2, (Option.some.inj z').symm⟩
    · have z' := (if_neg q).symm.trans z
      cases z'
  have hO : Only H := fun b => by
    by_cases q : b = a ∧ K.lookup a = none
    · exact .inr ⟨_, _, if_pos q⟩
    · exact .inl (if_neg q)
  have hok : HOk P w H s.heap := fun b u z => by
    obtain ⟨rfl, _, rfl⟩ := hH z
    exact ⟨ha, by rw [List.length_map]; exact hl, vs, _, rv, ha⟩
  have hS : SqL K H a (ns.map V.int) := by
    cases hk : K.lookup a with
    | some o =>
      have e := KX a o hk
      rw [ha] at e
      cases e
      exact .inr ⟨_, vs.toArray, _, hk, rfl, rfl, rfl, by rw [List.size_toArray, hi.length]; exact hl, by simpa using rv⟩
    | none => exact .inl (.inr ⟨_, if_pos ⟨rfl, hk⟩⟩)
  have hid : ∀ {b : Addr} {o : Obj}, s.heap.get? b = some o → (b = a → K.lookup a = none → False) → (hidT s.heap H).get? b = some o := fun {b o} e n => hidT_get e (by
    cases q : H b with
    | none => rfl
    | some u => exact (n (hH q).1 (hH q).2.1).elim)
  have nsK : ∀ {b : Addr} {m : Str → Option Value}, s.heap.Ns b m → (hidT s.heap H).Ns b m := fun {b m} ⟨o, es, ep, e, d, r⟩ => ⟨o, es, ep, hid e (fun z _ => by
    subst z
    rw [ha] at e
    cases e
    have d' : Data.seq vs.toArray _ = Data.dict es ep := d
    cases d'), d, r⟩
  have hKb : K.In (hidT s.heap H) := fun b o e => hid (KX b o e) fun z n => by
    subst z
    rw [n] at e
    cases e
  have e0 : Env0 P w K mg (hidT s.heap H) callerA [] s H := ⟨rfl, ⟨hKb, nsK hns, ⟨mb, nsK hb, hbb⟩, hlim.elim fun mc h => ⟨mc, nsK h.1, h.2⟩⟩, fun b o e => of_hidT e, Nat.le_of_eq (hidT_size _ _), trivial, fun b hb => absurd hb List.not_mem_nil, hok, .of_eq hg⟩
  refine codeAny_mono ((F _ hKb (nsK hns)).run callerA [] s H ⟨[.ref a], []⟩ [.ref a] [.ref a] _ _ rfl hr e0 (hbind s (.ref a)) (.cons rfl .nil) (hsp H hO hS)) fun r s' h => ?_
  match r, h with
  | .error e, h => exact h.elim
  | .ok .next, h => exact False.elim h
  | .ok .brk, h => exact False.elim h
  | .ok .cont, h => exact False.elim h
  | .ok (.ret u), ⟨v, H', os, bare, un, hok', r', q⟩ =>
    obtain rfl : v = .bl true := q
    obtain rfl : u = Value.bool true := r'
    refine ⟨rfl, OldK.of_keep fun b o e => ?_, os, bare⟩
    cases q : H b with
    | none => exact un.keep b o e q (fun z => List.not_mem_nil z) List.not_mem_nil
    | some u =>
      obtain ⟨rfl, _, rfl⟩ := hH q
      obtain ⟨e1, _⟩ := hok _ _ q
      obtain ⟨e2, _⟩ := hok' _ _ (un.frzs _ _ _ q)
      rw [e] at e1
      cases e1
      exact e2
theorem walk_ofG {l : PySem.W.OpenLaw} {n k : Nat} {q : Program} {loose : List Str} {XP : (Str → Option Value) → Heap → Prop} {YP : World → Heap → Prop} {d : DefRec} {K : Params → PySem.W.Frag} {sp : World → Sp} {x : Str}
    (hn : l.most = some n) (hn2 : n ≤ sizeLine) (hdf : d.params.defaults = []) (hr : Room k callerA)
    (hY : ∀ (w : World) (h : Heap), YP w h → (K w.params).In h)
    (F : ∀ (w : World) (mg : Str → Option Value) (fa : Addr) (h : Heap), (K w.params).In h → h.Ns mainGlobals mg → mg d.name = some (.ref fa) →
      ∃ fd : FuncData, (∀ (s : Shared) (u : Value), BindsTo s fd ⟨[u], []⟩ [(x, u)]) ∧ ∀ base : Heap, (K w.params).In base → base.Ns mainGlobals mg → FnG l.prog w (K w.params) mg base k fa fd [x] (sp w))
    (hsp : ∀ (w : World) (H : Hp) (a : Addr) (ns : List Int), ns.length ≤ n → Only H → SqL (K w.params) H a (ns.map V.int) → sp w [.ref a] H (fun v _ => v = .bl true) fun _ _ _ => False) :
    PySem.W.WalkO q loose XP YP l.row.toRowW d [] (fun f vs => PySem.call f vs) := by
  apply Att.attach_call hn hdf
  intro w s₀ s₁ mg mb fa o pm cd doc a vs ns G Y ho hd hcd hmg hobj hints hlen hg
  obtain ⟨fd, hb, hF⟩ := F w mg fa _ (hY w _ Y) G.T.g hmg
  exact law_callG (hY w _ Y) G.T.g G.T.b G.T.builtins G.T.nolimit hg hobj hints (Nat.le_trans hlen hn2) hr hF hb fun H hO hS => hsp w H a ns hlen hO hS
end Hx

set_option Elab.async false
set_option linter.all false
set_option maxRecDepth 100000
set_option maxHeartbeats 4000000
namespace Hx
open PySem PySem.Spec PyProof.Rows L2
/-- x == y by the class's own ==, whatever it answers -/
theorem op_eqOwn {X : Cx} {n : Nat} {C f : Addr} {fd : FuncData} {ps : List Str} {sp : Sp} (F : FnOk X.prog X.w X.K X.mg X.base CX0 n f fd ps sp) (hr : Room n X.A)
    (hs : PySem.W.findIn X.K (.ref C) "__eq__" = some (some (.ref f))) (hf : PySem.W.isFn X.K (.ref f) = true) (hb : Binds X.K fd ps []) :
    OpR X (compareOp .Eq) (fun x y H Q => ∃ a b dx dy fs gs, x = .ref a ∧ y = .ref b ∧ H a = some (.ins C dx fs) ∧ H b = some (.ins C dy gs) ∧ sp [.ref a, .ref b] H (fun v H' => ∃ c, v = .bl c ∧ Q (.bl c) H') (fun _ _ _ => False)) := by
  intro pins s σ H x y v u Q I rx ry h
  obtain ⟨a, b, dx, dy, fs, gs, rfl, rfl, ha, hb', hsp⟩ := h
  cases rx
  cases ry
  obtain ⟨mA, J, _⟩ := ins_get I.hok ha
  obtain ⟨mB, J', _⟩ := ins_get I.hok hb'
  obtain ⟨od, J, _⟩ := J.look
  obtain ⟨od', J', _⟩ := J'.look
  obtain ⟨m, hF⟩ := I.fr
  have hu := hr.un
  refine PySem.W.cmp_K (op := .Eq) (tb := .ref C) (by omega) hF I.ok.mod.kin J J'.type (by simp [PySem.W.notFirst]) hs hf ?_
  have hl := F.len _ _ _ _ hsp
  have r2 : Vals [V.ref a, V.ref b] [Value.ref a, Value.ref b] := .cons rfl (.cons rfl .nil)
  have hB : BindsTo s fd ⟨[.ref a, .ref b], []⟩ (ps.zip [.ref a, .ref b]) := by
    have := hb s [.ref a, .ref b] I.kIn (by simpa using hl)
    simpa using this
  refine wpAny_call (codeAny_mono (F.run X.A X.stack s H ⟨[.ref a, .ref b], []⟩ [.ref a, .ref b] [.ref a, .ref b] _ _ hr I.env0 hB r2 hsp) fun r s' hq => ?_)
  match r, hq with
  | .ok (.ret w), hq =>
    obtain ⟨z, H', I', rz, c, rfl, q⟩ := I.after hq
    cases rz
    exact ⟨.bl c, H', I', rfl, q⟩
  | .error e, hq => exact False.elim hq
  | .ok .next, hq => exact False.elim hq
  | .ok .brk, hq => exact False.elim hq
  | .ok .cont, hq => exact False.elim hq
/-! ### how long the text of whole numbers is -/
theorem text_le : ∀ (ts : List Str) (k : Nat) (acc : Str), (textFrom k acc ts).length ≤ acc.length + piled ts
  | [], _, acc => Nat.le_add_right _ _
  | t :: r, k, acc => by
    have ih := text_le r (k + 1) (acc ++ (if k > 0 then ", " else "" : String) ++ t)
    have e : (acc ++ (if k > 0 then ", " else "" : String) ++ t).length ≤ acc.length + 2 + t.length := by
      rw [strLen_append, strLen_append]
      split
      · exact Nat.le_refl _
      · exact Nat.add_le_add_right (Nat.add_le_add_left (Nat.zero_le 2) _) _
    show (textFrom (k + 1) _ r).length ≤ _
    rw [piled_cons]; omega
theorem piled_words : ∀ ns : List Int, (∀ n ∈ ns, 0 ≤ n ∧ n < 10 ^ 20) → piled (PyData.shownAll (ns.map PyData.int)) ≤ 22 * ns.length
  | [], _ => Nat.le_refl _
  | n :: r, h => by
    have i := piled_words r fun x hx => h x (List.mem_cons_of_mem _ hx)
    have j := toString_length_le (h n List.mem_cons_self).1 (by decide : 0 < 20) (h n List.mem_cons_self).2
    rw [List.map_cons, PyData.shownAll, piled_cons, PyData.shown, List.length_cons]
    omega
theorem words_dict : ∀ ns : List Int, PyData.hasDictAll (ns.map PyData.int) = false
  | [] => rfl
  | n :: r => by rw [List.map_cons, PyData.hasDictAll, PyData.hasDict, words_dict r] <;> rfl
theorem log_small {n : Int} (h : 0 ≤ n ∧ n < 10 ^ 20) : n.natAbs.log2 < 1920 := by
  by_cases z : n.natAbs = 0
  · rw [z]; decide
  · refine Nat.lt_trans (m := 67) ?_ (by decide)
    rw [Nat.log2_lt z]
    omega
theorem words_show : ∀ ns : List Int, (∀ n ∈ ns, 0 ≤ n ∧ n < 10 ^ 20) → PyData.showableAll (ns.map PyData.int) = true
  | [], _ => rfl
  | n :: r, h => by
    rw [List.map_cons, PyData.showableAll, PyData.showable, words_show r fun x hx => h x (List.mem_cons_of_mem _ hx), decide_eq_true (log_small (h n List.mem_cons_self))] <;> rfl
theorem words_depth : ∀ ns : List Int, PyData.depthAll (ns.map PyData.int) = 0
  | [] => by simp [PyData.depthAll]
  | n :: r => by simp [PyData.depthAll, PyData.depth, words_depth r]
/-- a list of words: all that repr asks -/
theorem shown_words {ns : List Int} (h : ∀ n ∈ ns, 0 ≤ n ∧ n < 10 ^ 20) (hl : ns.length ≤ 400) : (PyData.list (ns.map PyData.int)).showable = true ∧ (PyData.list (ns.map PyData.int)).hasDict = false ∧ (PyData.list (ns.map PyData.int)).depth ≤ 64 ∧ (PyData.list (ns.map PyData.int)).shown.length ≤ sizeLine := by
  refine ⟨by rw [PyData.showable]; exact words_show ns h, by rw [PyData.hasDict]; exact words_dict ns, by rw [PyData.depth, words_depth]; decide, ?_⟩
  rw [PyData.shown]
  have a := text_le (PyData.shownAll (ns.map PyData.int)) 0 "["
  have b := piled_words ns h
  show (textFrom 0 "[" _ ++ "]").length ≤ _
  rw [strLen_append, sizeLine_eq]
  have e : (("[" : String) : Str).length = 1 := rfl
  have e2 : (("]" : String) : Str).length = 1 := rfl
  rw [e] at a
  rw [e2]
  omega
/-! ### o.m(b=.., a=..) of two, in the other sequence -/
def kwR {α : Type} (us ws : List α) : List α := match us, ws with | [x], [b, a] => [x, a, b] | _, _ => []
theorem kw_bindsR {K : PySem.W.Frag} {x qual : Str} {st : Stmt} {f : Addr} {fd : FuncData} {ps : List Str} {p0 p1 p2 : Str} (F : Fun K x qual st f fd) (hp : ps = [p0, p1, p2])
    (h : ∀ (kV doc pm : Value) (an : Option Addr) (cdv ct : Value) (u a b : Value), bindArgs (PySem.W.fnOf x qual (defArgs st) (defBody st) (defScope st) .none kV doc pm an cdv ct) ⟨[u], [(p2, b), (p1, a)]⟩ = pure [(p0, u), (p1, a), (p2, b)]) : KBinds K fd ps [p2, p1] kwR kwR := by
  obtain ⟨oc, od, kV, doc, pm, an, cdv, ct, osl, rfl, lk, hcd⟩ := F.ex
  subst hp
  refine ⟨fun s us ws _ hl => ?_, fun {vs us zs ws} r1 r2 => ?_⟩
  · match us, ws, hl with
    | [u], [b, a], _ => exact .of_eq (h kV doc pm an cdv ct u a b)
    | [], _, hl => simp [kwR] at hl
    | [_], [], hl => simp [kwR] at hl
    | [_], [_], hl => simp [kwR] at hl
    | [_], _ :: _ :: _ :: _, hl => simp [kwR] at hl
    | _ :: _ :: _, _, hl => simp [kwR] at hl
  · cases r1 with
    | nil => exact .nil
    | cons a t =>
      cases t with
      | cons b t => exact .nil
      | nil =>
        cases r2 with
        | nil => exact .nil
        | cons b r2 =>
          cases r2 with
          | nil => exact .nil
          | cons c r2 =>
            cases r2 with
            | nil => exact .cons a (.cons c (.cons b .nil))
            | cons _ _ => exact .nil
/-! ### a list of ints beside the empty one -/
theorem eqv_nil (ns : List Int) : PyData.eqv (.list (ns.map PyData.int)) (.list []) = ns.isEmpty := by
  cases ns with
  | nil => exact eqv_ints []
  | cons a r => simp [PyData.eqv, PyData.eqvAll]
theorem op_neNil {X : Cx} (hu : X.A.units + 64 < cLine) : OpR X (compareOp .NotEq) (fun x y H Q => ∃ (p q : Addr) (ns : List Int), x = .ref p ∧ y = .ref q ∧ SqL X.K H p (ns.map V.int) ∧ SqL X.K H q [] ∧ Q (.bl (!ns.isEmpty)) H) := by
  intro pins s σ H x y v u Q I rx ry ⟨p, q, ns, e1, e2, h1, h2, k⟩
  refine op_neD hu pins s σ H x y v u Q I rx ry ⟨.list (ns.map PyData.int), .list [], ?_, ?_, ?_, ?_, ?_⟩
  · rw [e1]; exact .lst h1 (dp_ints ns)
  · rw [e2]; exact .lst h2 .nil
  · exact sh_ints ns
  · exact sh_ints []
  · rw [eqv_nil]; exact k
end Hx

set_option Elab.async false
set_option linter.all false
set_option maxRecDepth 100000
set_option maxHeartbeats 4000000
namespace Hx
open PySem PySem.Spec PyProof.Rows L2
/-! ### lists of pairs of ints; things of the same data in a grown heap -/
def rowD (r : Int × Int) : PyData := .tuple [.int r.1, .int r.2]
def rowsD (rs : List (Int × Int)) : PyData := .list (rs.map rowD)
theorem dp_rows {K : PySem.W.Frag} {H : Hp} : ∀ (ts : List Addr) (rs : List (Int × Int)), ts.length = rs.length → (∀ (i : Nat) (t : Addr) (r : Int × Int), ts[i]? = some t → rs[i]? = some r → H t = some (.tup [.int r.1, .int r.2])) → DpAll K H (ts.map V.ref) (rs.map rowD)
  | [], [], _, _ => .nil
  | t :: ts, r :: rs, hl, h => .cons (.tup (SqT.of (h 0 t r rfl rfl)) (.cons (.int _) (.cons (.int _) .nil))) (dp_rows ts rs (by simpa using hl) fun i t' r' h1 h2 => h (i + 1) t' r' (by simpa using h1) (by simpa using h2))
  | [], _ :: _, hl, _ => by simp at hl
  | _ :: _, [], hl, _ => by simp at hl
theorem rows_sh (rs : List (Int × Int)) : SeqAt.shaped (rowsD rs) = true := flat_sh (n := 2) (flat_list (n := 1) fun d hd => by
  obtain ⟨r, _, rfl⟩ := List.mem_map.mp hd
  exact flat_tup (n := 0) fun d hd => by
    simp at hd
    rcases hd with rfl | rfl <;> exact flat_int 0 _)
theorem sqt_same {K : PySem.W.Frag} {H H' : Hp} {a : Addr} {xs : List V} (s : Same H H') (h : SqT K H a xs) : SqT K H' a xs := h.elim (fun r => r.elim (fun e => .inl (.inl (s _ _ e))) (fun ⟨o, e⟩ => .inl (.inr ⟨o, s _ _ e⟩))) .inr
mutual
theorem dp_same {K : PySem.W.Frag} {H H' : Hp} (s : Same H H') : ∀ (d : PyData) (v : V), Dp K H v d → Dp K H' v d
  | .none, _, h => by cases h; exact .non
  | .bool b, _, h => by cases h; exact .bl b
  | .int i, _, h => by cases h; exact .int i
  | .str x, _, h => by cases h; exact .str x
  | .list ds, _, h => by cases h with | lst h1 h2 => exact .lst (L2.Same.seq s h1) (dpA_same s ds _ h2)
  | .tuple ds, _, h => by cases h with | tup h1 h2 => exact .tup (sqt_same s h1) (dpA_same s ds _ h2)
  | .dict _, _, h => by cases h
theorem dpA_same {K : PySem.W.Frag} {H H' : Hp} (s : Same H H') : ∀ (ds : List PyData) (vs : List V), DpAll K H vs ds → DpAll K H' vs ds
  | [], _, h => by cases h; exact .nil
  | d :: ds, _, h => by cases h with | cons h1 h2 => exact .cons (dp_same s d _ h1) (dpA_same s ds _ h2)
end
end Hx

set_option Elab.async false
set_option linter.all false
set_option maxRecDepth 100000
set_option maxHeartbeats 4000000
namespace Hx
open PySem PySem.Spec PyProof.Rows L2
/-! ### keywords in any sequence: n values by place, then those of the permutation -/
def kwP {α : Type} (n : Nat) (perm : List Nat) (us ws : List α) : List α := if us.length = n ∧ ws.length = perm.length then us ++ perm.filterMap (fun i => ws[i]?) else []
theorem vals_append {a b : List V} {x y : List Value} (h : Vals a x) (k : Vals b y) : Vals (a ++ b) (x ++ y) := by
  induction h with
  | nil => exact k
  | cons r t ih => exact .cons r ih
theorem vals_get {a : List V} {x : List Value} (h : Vals a x) : ∀ i : Nat, (∃ v u, a[i]? = some v ∧ x[i]? = some u ∧ RelV v u) ∨ (a[i]? = none ∧ x[i]? = none) := by
  induction h with
  | nil => exact fun i => .inr ⟨by simp, by simp⟩
  | cons r t ih =>
    intro i
    cases i with
    | zero => exact .inl ⟨_, _, rfl, rfl, r⟩
    | succ j => simpa using ih j
theorem vals_perm {a : List V} {x : List Value} (h : Vals a x) : ∀ perm : List Nat, Vals (perm.filterMap (fun i => a[i]?)) (perm.filterMap (fun i => x[i]?))
  | [] => .nil
  | i :: r => by
    have t := vals_perm h r
    rcases vals_get h i with ⟨v, u, e1, e2, q⟩ | ⟨e1, e2⟩
    · rw [List.filterMap_cons, List.filterMap_cons, e1, e2]; exact .cons q t
    · rw [List.filterMap_cons, List.filterMap_cons, e1, e2]; exact t
theorem vals_kwP {n : Nat} {perm : List Nat} {vs zs : List V} {us ws : List Value} (h : Vals vs us) (k : Vals zs ws) : Vals (kwP n perm vs zs) (kwP n perm us ws) := by
  unfold kwP
  rw [h.length, k.length]
  split
  · exact vals_append h (vals_perm k perm)
  · exact .nil
theorem kw_bindsP {K : PySem.W.Frag} {x qual : Str} {st : Stmt} {f : Addr} {fd : FuncData} {ps ks : List Str} {n : Nat} {perm : List Nat} (F : Fun K x qual st f fd) (h0 : 0 < ps.length)
    (h : ∀ (kV doc pm : Value) (an : Option Addr) (cdv ct : Value) (us ws : List Value), us.length = n → ws.length = perm.length → bindArgs (PySem.W.fnOf x qual (defArgs st) (defBody st) (defScope st) .none kV doc pm an cdv ct) ⟨us, ks.zip ws⟩ = pure (ps.zip (kwP n perm us ws))) : KBinds K fd ps ks (kwP n perm) (kwP n perm) := by
  obtain ⟨oc, od, kV, doc, pm, an, cdv, ct, osl, rfl, lk, hcd⟩ := F.ex
  refine ⟨fun s us ws _ hl => ?_, fun r1 r2 => vals_kwP r1 r2⟩
  by_cases q : us.length = n ∧ ws.length = perm.length
  · exact .of_eq (h kV doc pm an cdv ct us ws q.1 q.2)
  · unfold kwP at hl; rw [if_neg q] at hl; simp at hl; omega
theorem kw_bindsN {K : PySem.W.Frag} {x qual : Str} {st : Stmt} {f : Addr} {fd : FuncData} {ps ks : List Str} {n : Nat} {perm : List Nat} (F : Fun K x qual st f fd) (h0 : ks.length = perm.length)
    (h : ∀ (kV doc pm : Value) (an : Option Addr) (cdv ct : Value) (us ws : List Value), us.length = n → ws.length = perm.length → bindArgs (PySem.W.fnOf x qual (defArgs st) (defBody st) (defScope st) .none kV doc pm an cdv ct) ⟨us, ks.zip ws⟩ = pure (ps.zip (kwP n perm us ws))) : KBn K fd ps n ks (kwP n perm) (kwP n perm) := by
  obtain ⟨oc, od, kV, doc, pm, an, cdv, ct, osl, rfl, lk, hcd⟩ := F.ex
  exact ⟨fun s us ws _ l1 l2 => .of_eq (h kV doc pm an cdv ct us ws l1 (l2.trans h0)), fun r1 r2 => vals_kwP r1 r2⟩
/-! ### an own == beside a list -/
theorem op_eqOwnL {X : Cx} {n : Nat} {C f : Addr} {fd : FuncData} {ps : List Str} {sp : Sp} (F : FnOk X.prog X.w X.K X.mg X.base CX0 n f fd ps sp) (hr : Room n X.A)
    (hs : PySem.W.findIn X.K (.ref C) "__eq__" = some (some (.ref f))) (hf : PySem.W.isFn X.K (.ref f) = true) (hb : Binds X.K fd ps []) (hsl : PySem.W.subIn X.K (.type "list") (.ref C) = some false) :
    OpR X (compareOp .Eq) (fun x y H Q => ∃ a b dx fs xs, x = .ref a ∧ y = .ref b ∧ H a = some (.ins C dx fs) ∧ H b = some (.lst xs) ∧ sp [.ref a, .ref b] H (fun v H' => ∃ c, v = .bl c ∧ Q (.bl c) H') (fun _ _ _ => False)) := by
  intro pins s σ H x y v u Q I rx ry h
  obtain ⟨a, b, dx, fs, xs, rfl, rfl, ha, hb', hsp⟩ := h
  cases rx
  cases ry
  obtain ⟨mA, J, _⟩ := ins_get I.hok ha
  obtain ⟨od, J, _⟩ := J.look
  obtain ⟨_, _, nn, _, h1⟩ := (show ObjOk X.prog X.w H s.heap b (.lst xs) from I.hok b _ hb')
  obtain ⟨m, hF⟩ := I.fr
  have hu := hr.un
  refine PySem.W.cmp_K (op := .Eq) (tb := .type "list") (by omega) hF I.ok.mod.kin J (fun A Q E s k q => wpAny_typeOf_ref (k _ _ h1) q) (by simp [PySem.W.notFirst, hsl]) hs hf ?_
  have hl := F.len _ _ _ _ hsp
  have r2 : Vals [V.ref a, V.ref b] [Value.ref a, Value.ref b] := .cons rfl (.cons rfl .nil)
  have hB : BindsTo s fd ⟨[.ref a, .ref b], []⟩ (ps.zip [.ref a, .ref b]) := by
    have := hb s [.ref a, .ref b] I.kIn (by simpa using hl)
    simpa using this
  refine wpAny_call (codeAny_mono (F.run X.A X.stack s H ⟨[.ref a, .ref b], []⟩ [.ref a, .ref b] [.ref a, .ref b] _ _ hr I.env0 hB r2 hsp) fun r s' hq => ?_)
  match r, hq with
  | .ok (.ret w), hq =>
    obtain ⟨z, H', I', rz, c, rfl, q⟩ := I.after hq
    cases rz
    exact ⟨.bl c, H', I', rfl, q⟩
  | .error e, hq => exact False.elim hq
  | .ok .next, hq => exact False.elim hq
  | .ok .brk, hq => exact False.elim hq
  | .ok .cont, hq => exact False.elim hq
theorem kit_not {K : PySem.W.Frag} {C : Addr} (h1 : PySem.W.isClsIn K C = true) (h2 : PySem.W.typeIn K (.ref C) = some (.type "type")) (h3 : PySem.W.subIn K (.type "list") (.ref C) = some false) : PySem.W.kitOne K (.type "list") (.ref C) = some false := by
  have e : ((PySem.W.clsIn K C).isSome && PySem.W.typeIn K (.ref C) == some (.type "type")) = true := by
    have h1' : (PySem.W.clsIn K C).isSome = true := h1
    rw [h1', h2] <;> rfl
  show (if ((Value.type "list" == .ref C) = true) then some true else (if ((PySem.W.clsIn K C).isSome && PySem.W.typeIn K (.ref C) == some (.type "type")) = true then PySem.W.subIn K (.type "list") (.ref C) else none)) = some false
  rw [if_neg (by intro z; cases z), if_pos e]
  exact h3
/-! ### a comprehension that sifts -/
theorem lc_filt {α : Type} {K : PySem.W.Frag} {a : Addr} {g : TG} {tt : TT} {te : TE} {vs : List Nat} {σ : L2.St} {H1 : Hp} {D : Addr} {Qd : Hp → Prop} (zs : List α) (f : α → V) (t : α → Bool) (ha : SqL K H1 a (zs.map f)) (hD : H1 D = none) (hz : zs.length ≤ 10000)
    (hs : ∀ (i : Nat) (z : α) (H' : Hp) (Qn : Hp → Prop) (Qy : VK), zs[i]? = some z → Same H1 H' → (t z = false → ∀ H'', Same H' H'' → Qn H'') → (t z = true → ∀ H'', Same H' H'' → Qy (f z) H'') → g (f z) (wipe σ vs) H' fun σ2 H2 => wipe σ2 vs = wipe σ vs ∧ tt σ2 H2 fun b H3 => if b = true then te σ2 H3 Qy else Qn H3)
    (hd : ∀ H', Same H1 H' → H' D = some (.lst ((zs.filter t).map f)) → Qd H') :
    ∃ W : Nat → Nat → Hp → Prop, (∃ m, W 0 m (upd H1 D (.lst []))) ∧ ∀ i m H, W i m H →
      ((Itl K a).stop i H ∧ Qd H) ∨ ((Itl K a).go i H ∧ ∃ Nx : Hp → Prop, (∀ H', Nx H' → ∃ m', m' < m ∧ W (i + 1) m' H') ∧ ∀ x H', (Itl K a).yld i H x H' → g x (wipe σ vs) H' fun σ2 H2 => wipe σ2 vs = wipe σ vs ∧ tt σ2 H2 fun b H3 =>
        if b = true then te σ2 H3 fun y H4 => ∃ acc, H4 D = some (.lst acc) ∧ acc.length < sizeLine ∧ Nx (upd H4 D (.lst (acc ++ [y]))) else Nx H3) := by
  refine lc_list (xs := zs.map f) (fun i H => Same H1 H ∧ H D = some (.lst (((zs.take i).filter t).map f))) ⟨same_upd hD, upd_same⟩ (fun i H _ h => L2.Same.seq h.1 ha) (fun i x H hx h => ?_) (fun H h => hd H h.1 (by rw [h.2, List.length_map, List.take_length]))
  rw [List.getElem?_map] at hx
  obtain ⟨z, hz1, rfl⟩ := Option.map_eq_some_iff.mp hx
  have et : zs.take (i + 1) = zs.take i ++ [z] := by rw [List.take_add_one, hz1]; rfl
  refine hs i z H _ _ hz1 h.1 (fun tn H'' s => ?_) (fun ty H'' s => ?_)
  · refine ⟨L2.Same.trans h.1 s, ?_⟩
    rw [s _ _ h.2, et, List.filter_append, List.filter_cons_of_neg (by simp [tn]), List.filter_nil, List.append_nil]
  · refine ⟨((zs.take i).filter t).map f, s _ _ h.2, size_lt ?_, same_set (L2.Same.trans h.1 s) hD, ?_⟩
    · have := List.length_filter_le t (zs.take i)
      simp at this ⊢; omega
    · rw [upd_same, et, List.filter_append, List.filter_cons_of_pos ty, List.filter_nil, List.map_append]; rfl
/-! ### parts of a list -/
theorem cut_from (xs : List V) (k : Nat) : cutV xs (some (k : Int)) none = xs.drop k := by
  unfold cutV
  rw [HT.sIx_nat, HT.sIx_none, List.take_of_length_le (by rw [List.length_drop]; omega)]
  by_cases h : k ≤ xs.length
  · rw [Nat.min_eq_left h]
  · rw [Nat.min_eq_right (by omega), List.drop_length, List.drop_of_length_le (by omega)]
theorem cut_to (xs : List V) (k : Nat) : cutV xs none (some (k : Int)) = xs.take k := by
  unfold cutV
  rw [HT.sIx_nat, HT.sIx_none, List.drop_zero, Nat.sub_zero]
  by_cases h : k ≤ xs.length
  · rw [Nat.min_eq_left h]
  · rw [Nat.min_eq_right (by omega), List.take_length, List.take_of_length_le (by omega)]
/-! ### a list beside the empty one -/
theorem eqv_nilD (ds : List PyData) : PyData.eqv (.list ds) (.list []) = ds.isEmpty := by
  cases ds with
  | nil => rfl
  | cons a r => simp [PyData.eqv, PyData.eqvAll]
end Hx

set_option Elab.async false
set_option linter.all false
set_option maxRecDepth 100000
set_option maxHeartbeats 4000000
namespace Hx
open PySem PySem.Spec PyProof.Rows L2
/-! ### a list or a tuple -/
def Sq (K : PySem.W.Frag) (H : Hp) (a : Addr) (xs : List V) : Prop := H a = some (.lst xs) ∨ H a = some (.tup xs)
theorem Sq.same {K : PySem.W.Frag} {H H' : Hp} {a : Addr} {xs : List V} (s : Same H H') (h : Sq K H a xs) : Sq K H' a xs := h.imp (s _ _) (s _ _)
theorem Sq.or {K : PySem.W.Frag} {H : Hp} {a : Addr} {xs : List V} (h : Sq K H a xs) : SqL K H a xs ∨ SqT K H a xs := h.imp SqL.of SqT.of
def rIxB (K : PySem.W.Frag) : R2 := fun x y H Q => ∃ p xs i v, x = .ref p ∧ y = .int i ∧ Sq K H p xs ∧ atI xs i = some v ∧ Q v H
theorem ix_both {X : Cx} : IxR X (rIxB X.K) := by
  intro value slice pins s σ H x y v u Q I rx ry h hs
  obtain ⟨p, xs, i, z, rfl, rfl, hq, he, q⟩ := h
  rcases hq with hq | hq
  · exact ix_list value slice pins s σ H _ _ v u Q I rx ry ⟨p, xs, i, z, rfl, rfl, SqL.of hq, he, q⟩ hs
  · exact ix_tup value slice pins s σ H _ _ v u Q I rx ry ⟨p, xs, i, z, rfl, rfl, SqT.of hq, he, q⟩ hs
/-! ### texts of a few bools -/
theorem shown_bools (bs : List Bool) (hl : bs.length ≤ 400) : (PyData.list (bs.map PyData.bool)).showable = true ∧ (PyData.list (bs.map PyData.bool)).hasDict = false ∧ (PyData.list (bs.map PyData.bool)).depth ≤ 64 ∧ (PyData.list (bs.map PyData.bool)).shown.length ≤ sizeLine := by
  have h1 : ∀ bs : List Bool, PyData.showableAll (bs.map PyData.bool) = true := fun bs => by
    induction bs with
    | nil => rfl
    | cons b r ih => rw [List.map_cons, PyData.showableAll, PyData.showable, ih] <;> rfl
  have h2 : ∀ bs : List Bool, PyData.hasDictAll (bs.map PyData.bool) = false := fun bs => by
    induction bs with
    | nil => rfl
    | cons b r ih => rw [List.map_cons, PyData.hasDictAll, PyData.hasDict, ih] <;> rfl
  have h3 : ∀ bs : List Bool, PyData.depthAll (bs.map PyData.bool) = 0 := fun bs => by
    induction bs with
    | nil => simp [PyData.depthAll]
    | cons b r ih => simp [PyData.depthAll, PyData.depth, ih]
  have h4 : ∀ bs : List Bool, piled (PyData.shownAll (bs.map PyData.bool)) ≤ 22 * bs.length := fun bs => by
    induction bs with
    | nil => exact Nat.le_refl _
    | cons b r ih =>
      have e : (PyData.shown (.bool b)).length ≤ 5 := by cases b <;> decide
      rw [List.map_cons, PyData.shownAll, piled_cons, List.length_cons]
      omega
  refine ⟨by rw [PyData.showable]; exact h1 bs, by rw [PyData.hasDict]; exact h2 bs, by rw [PyData.depth, h3]; decide, ?_⟩
  rw [PyData.shown]
  have a := text_le (PyData.shownAll (bs.map PyData.bool)) 0 "["
  have b := h4 bs
  show (textFrom 0 "[" _ ++ "]").length ≤ _
  rw [strLen_append, sizeLine_eq]
  have e : (("[" : String) : Str).length = 1 := rfl
  have e2 : (("]" : String) : Str).length = 1 := rfl
  rw [e] at a
  rw [e2]
  omega
theorem dp_bools {K : PySem.W.Frag} {H : Hp} : ∀ bs : List Bool, DpAll K H (bs.map V.bl) (bs.map PyData.bool)
  | [] => .nil
  | b :: r => .cons (.bl b) (dp_bools r)
end Hx

set_option Elab.async false
set_option linter.all false
set_option maxRecDepth 100000
set_option maxHeartbeats 4000000
/-! HsSep: what is owned of a heap, as a list; a part of the heap that never changes; frames. -/
namespace L2
open PySem PySem.Spec PyProof.Rows
variable {K : PySem.W.Frag}
theorem DpAll.app' {M : Hp} : ∀ {vs us : List V} {ds es : List PyData}, DpAll K M vs ds → DpAll K M us es → DpAll K M (vs ++ us) (ds ++ es)
  | _, _, _, _, .nil, y => y
  | _, _, _, _, .cons x z, y => .cons x (DpAll.app' z y)
theorem DpAll.get {M : Hp} : ∀ {vs : List V} {ds : List PyData} {i : Nat} {v : V}, DpAll K M vs ds → vs[i]? = some v → ∃ d, ds[i]? = some d ∧ Dp K M v d
  | _, _, _, _, .nil, e => by simp at e
  | _, _, 0, _, .cons x _, e => by simp at e; subst e; exact ⟨_, rfl, x⟩
  | _, _, i + 1, v, .cons _ y, e => by
    obtain ⟨d, h1, h2⟩ := DpAll.get (i := i) (v := v) y (by simpa using e)
    exact ⟨d, by simpa using h1, h2⟩
theorem DpAll.get' {M : Hp} : ∀ {vs : List V} {ds : List PyData} {i : Nat} {v : V} {d : PyData}, DpAll K M vs ds → vs[i]? = some v → ds[i]? = some d → Dp K M v d := fun h e1 e2 => by
  obtain ⟨d', h1, h2⟩ := h.get e1
  rw [e2] at h1; cases h1; exact h2
theorem DpAll.len {M : Hp} : ∀ {vs : List V} {ds : List PyData}, DpAll K M vs ds → vs.length = ds.length
  | _, _, .nil => rfl
  | _, _, .cons _ y => by simp [DpAll.len y]
theorem DpAll.take {M : Hp} : ∀ {vs : List V} {ds : List PyData} (n : Nat), DpAll K M vs ds → DpAll K M (vs.take n) (ds.take n)
  | _, _, 0, _ => by simpa using DpAll.nil
  | _, _, _ + 1, .nil => by simpa using DpAll.nil
  | _, _, n + 1, .cons x y => by simpa using DpAll.cons x (DpAll.take n y)
theorem DpAll.drop {M : Hp} : ∀ {vs : List V} {ds : List PyData} (n : Nat), DpAll K M vs ds → DpAll K M (vs.drop n) (ds.drop n)
  | _, _, 0, h => by simpa using h
  | _, _, _ + 1, .nil => by simpa using DpAll.nil
  | _, _, n + 1, .cons _ y => by simpa using DpAll.drop n y
theorem DpAll.set {M : Hp} {v : V} {d : PyData} (x : Dp K M v d) : ∀ {vs : List V} {ds : List PyData} (n : Nat), DpAll K M vs ds → DpAll K M (vs.set n v) (ds.set n d)
  | _, _, _, .nil => by simpa using DpAll.nil
  | _, _, 0, .cons _ y => by simpa using DpAll.cons x y
  | _, _, n + 1, .cons z y => by simpa using DpAll.cons z (DpAll.set x n y)
theorem DpAll.erase {M : Hp} : ∀ {vs : List V} {ds : List PyData} (n : Nat), DpAll K M vs ds → DpAll K M (vs.eraseIdx n) (ds.eraseIdx n)
  | _, _, _, .nil => by simpa using DpAll.nil
  | _, _, 0, .cons _ y => by simpa using y
  | _, _, n + 1, .cons x y => by simpa using DpAll.cons x (DpAll.erase n y)
theorem DpAll.dropLast {M : Hp} {vs : List V} {ds : List PyData} (h : DpAll K M vs ds) : DpAll K M vs.dropLast ds.dropLast := by
  rw [List.dropLast_eq_take, List.dropLast_eq_take, h.len]; exact h.take _
theorem DpAll.rev {M : Hp} : ∀ {vs : List V} {ds : List PyData}, DpAll K M vs ds → DpAll K M vs.reverse ds.reverse
  | _, _, .nil => .nil
  | _, _, .cons x y => by rw [List.reverse_cons, List.reverse_cons]; exact DpAll.app' (DpAll.rev y) (.cons x .nil)
end L2
namespace Hx
open PySem PySem.Spec PyProof.Rows L2
/-- what stands at an owned address -/
inductive Ob where
  | raw (o : HO)
  | such (φ : HO → Prop)
  | L (ds : List PyData)
  | D (kds : List (Key × PyData))
/-- M: the part that never changes -/
def Hd (K : PySem.W.Frag) (M H : Hp) (a : Addr) : Ob → Prop
  | .raw o => H a = some o
  | .such φ => ∃ o, H a = some o ∧ φ o
  | .L ds => ∃ vs, H a = some (.lst vs) ∧ DpAll K M vs ds
  | .D kds => ∃ kvs : List (Key × V), H a = some (.dK kvs) ∧ kvs.map Prod.fst = kds.map Prod.fst ∧ DpAll K M (kvs.map Prod.snd) (kds.map Prod.snd)
/-- what is known of the part that never changes -/
inductive Pf where
  | tup (t : Addr) (vs : List V)
  | lst (t : Addr) (vs : List V)
  | dp (vs : List V) (ds : List PyData)
  | sq (t : Addr) (vs : List V)
def Pf.ok (K : PySem.W.Frag) (M : Hp) : Pf → Prop
  | .tup t vs => M t = some (.tup vs)
  | .lst t vs => M t = some (.lst vs)
  | .dp vs ds => DpAll K M vs ds
  | .sq t vs => SqT K M t vs
structure Own (K : PySem.W.Frag) (H : Hp) (L : List (Addr × Ob)) (P : List Pf) : Prop where
  ex : ∃ M : Hp, (L.map Prod.fst).Nodup ∧ (∀ p ∈ L, Hd K M H p.1 p.2 ∧ M p.1 = none) ∧ (∀ b u, M b = some u → H b = some u) ∧ ∀ q ∈ P, q.ok K M
theorem Pf.same {K : PySem.W.Frag} {M M' : Hp} (s : Same M M') : ∀ q : Pf, q.ok K M → q.ok K M'
  | .tup t vs, h => s _ _ h
  | .lst t vs, h => s _ _ h
  | .dp vs ds, h => dpA_same s _ _ h
  | .sq t vs, h => sqt_same s h
theorem Hd.some {K : PySem.W.Frag} {M H : Hp} {a : Addr} : ∀ {o : Ob}, Hd K M H a o → ∃ u, H a = Option.some u
  | .raw _, h => ⟨_, h⟩
  | .such _, ⟨_, h, _⟩ => ⟨_, h⟩
  | .L _, ⟨_, h, _⟩ => ⟨_, h⟩
  | .D _, ⟨_, h, _⟩ => ⟨_, h⟩
theorem Hd.same {K : PySem.W.Frag} {M M' H H' : Hp} {a : Addr} (s : Same M M') (e : H' a = H a) : ∀ {o : Ob}, Hd K M H a o → Hd K M' H' a o
  | .raw _, h => e.trans h
  | .such _, ⟨_, h, q⟩ => ⟨_, e.trans h, q⟩
  | .L _, ⟨_, h, q⟩ => ⟨_, e.trans h, dpA_same s _ _ q⟩
  | .D _, ⟨_, h, k, q⟩ => ⟨_, e.trans h, k, dpA_same s _ _ q⟩
variable {K : PySem.W.Frag} {H H1 M : Hp} {L L' R B : List (Addr × Ob)} {P P' : List Pf} {p a t : Addr} {o : HO} {ob : Ob} {vs us : List V} {ds es : List PyData}
theorem Own.new (h : Own K H L P) (f : H p = none) (e : upd H p o = H1) : Own K H1 ((p, .raw o) :: L) P := by
  subst e
  obtain ⟨M, nd, hl, hs, hp⟩ := h.ex
  have np : ∀ q ∈ L, q.1 ≠ p := fun q hq z => by obtain ⟨u, hu⟩ := (hl q hq).1.some; rw [z, f] at hu; cases hu
  have mp : M p = none := by
    cases e : M p with
    | none => rfl
    | some u => rw [hs _ _ e] at f; cases f
  refine ⟨M, ?_, fun q hq => ?_, fun b u hb => ?_, hp⟩
  · rw [List.map_cons, List.nodup_cons]
    exact ⟨fun z => by obtain ⟨q, hq, e⟩ := List.mem_map.mp z; exact np q hq e, nd⟩
  · rcases List.mem_cons.mp hq with rfl | hq
    · exact ⟨upd_same, mp⟩
    · exact ⟨(hl q hq).1.same (L2.Same.refl _) (upd_ne (np q hq)), (hl q hq).2⟩
  · rw [upd_ne (fun z => by rw [z, mp] at hb; cases hb)]; exact hs _ _ hb
/-- a new thing that never changes -/
theorem Own.newM (h : Own K H L P) (f : H p = none) (e : upd H p o = H1) {q : Pf} (hq : ∀ M : Hp, M p = some o → q.ok K M) : Own K H1 L (q :: P) := by
  subst e
  obtain ⟨M, nd, hl, hs, hp⟩ := h.ex
  have np : ∀ q ∈ L, q.1 ≠ p := fun q hq z => by obtain ⟨u, hu⟩ := (hl q hq).1.some; rw [z, f] at hu; cases hu
  have mp : M p = none := by
    cases e : M p with
    | none => rfl
    | some u => rw [hs _ _ e] at f; cases f
  have sm : Same M (upd M p o) := same_upd mp
  refine ⟨upd M p o, nd, fun q hq => ⟨(hl q hq).1.same sm (upd_ne (np q hq)), by rw [upd_ne (np q hq)]; exact (hl q hq).2⟩, fun b u hb => ?_, fun r hr => ?_⟩
  · by_cases z : b = p
    · subst z; rw [upd_same] at hb ⊢; exact hb
    · rw [upd_ne z] at hb ⊢; exact hs _ _ hb
  · rcases List.mem_cons.mp hr with rfl | hr
    · exact hq _ upd_same
    · exact r.same sm (hp r hr)
theorem Own.newT (h : Own K H L P) (f : H p = none) (e : upd H p (.tup vs) = H1) : Own K H1 L (.tup p vs :: P) := h.newM f e fun _ z => z
theorem Own.newP (h : Own K H L P) (f : H p = none) (e : upd H p (.lst vs) = H1) : Own K H1 L (.lst p vs :: P) := h.newM f e fun _ z => z
inductive At : List (Addr × Ob) → Addr → Ob → List (Addr × Ob) → Prop
  | head {a : Addr} {o o' : Ob} {t : List (Addr × Ob)} : At ((a, o) :: t) a o' ((a, o') :: t)
  | tail {a : Addr} {o' : Ob} {p : Addr × Ob} {t t' : List (Addr × Ob)} : At t a o' t' → At (p :: t) a o' (p :: t')
  | app {a : Addr} {o' : Ob} {A t t' : List (Addr × Ob)} : At t a o' t' → At (A ++ t) a o' (A ++ t')
theorem At.parts {L L' : List (Addr × Ob)} {a : Addr} {o' : Ob} (h : At L a o' L') : ∃ x o y, L = x ++ (a, o) :: y ∧ L' = x ++ (a, o') :: y := by
  induction h with
  | head => exact ⟨[], _, _, rfl, rfl⟩
  | tail _ ih => obtain ⟨x, o, y, e1, e2⟩ := ih; exact ⟨_ :: x, o, y, by rw [e1]; rfl, by rw [e2]; rfl⟩
  | @app _ _ A _ _ _ ih => obtain ⟨x, o, y, e1, e2⟩ := ih; exact ⟨A ++ x, o, y, by rw [e1, List.append_assoc], by rw [e2, List.append_assoc]⟩
theorem Own.setU (h : Own K H L P) (m : At L a ob L') (e : upd H a o = H1) (hd : ∀ M : Hp, (∀ q ∈ P, q.ok K M) → (∀ o0, (a, o0) ∈ L → Hd K M H a o0) → Hd K M (upd H a o) a ob) : Own K H1 L' P := by
  subst e
  obtain ⟨M, nd, hl, hs, hp⟩ := h.ex
  obtain ⟨x, o0, y, rfl, rfl⟩ := m.parts
  have ma : M a = none := (hl (a, o0) (by simp)).2
  have nd' := nd
  rw [List.map_append, List.map_cons, List.nodup_append, List.nodup_cons] at nd'
  have na : ∀ q, (q ∈ x ∨ q ∈ y) → q.1 ≠ a := fun q hq z => by
    rcases hq with hq | hq
    · exact nd'.2.2 q.1 (List.mem_map_of_mem hq) a List.mem_cons_self z
    · exact nd'.2.1.1 (List.mem_map.mpr ⟨q, hq, z⟩)
  refine ⟨M, by rw [List.map_append, List.map_cons] at nd ⊢; exact nd, fun q hq => ?_, fun b u hb => ?_, hp⟩
  · have old : (q ∈ x ∨ q ∈ y) → Hd K M (upd H a o) q.1 q.2 ∧ M q.1 = none := fun z => by
      have := hl q (by rcases z with z | z <;> simp [z])
      exact ⟨this.1.same (L2.Same.refl _) (upd_ne (na q z)), this.2⟩
    rcases List.mem_append.mp hq with hq | hq
    · exact old (.inl hq)
    · rcases List.mem_cons.mp hq with rfl | hq
      · exact ⟨hd M hp fun o1 m1 => (hl _ m1).1, ma⟩
      · exact old (.inr hq)
  · rw [upd_ne (fun z => by rw [z, ma] at hb; cases hb)]; exact hs _ _ hb
theorem Own.setO (h : Own K H L P) (m : At L a ob L') (e : upd H a o = H1) (hd : ∀ M : Hp, (∀ q ∈ P, q.ok K M) → Hd K M (upd H a o) a ob) : Own K H1 L' P := h.setU m e fun M q _ => hd M q
theorem Own.set (h : Own K H L P) (m : At L a (.raw o) L') (e : upd H a o = H1) : Own K H1 L' P := h.setO m e fun _ _ => upd_same
/-- the same, by a name that a walker sees -/
def updX (H : Hp) (a : Addr) (o : HO) : Hp := upd H a o
theorem upd_mk (H : Hp) (a : Addr) (o : HO) : upd H a o = updX H a o := rfl
theorem upd_mkO (h : Own K H L P) (a : Addr) (o : HO) : upd H a o = updX H a o := rfl
theorem Own.cset {G : Prop} (h : Own K H L P) (e : updX H a o = H1) (m : At L a (.raw o) L') (k : Own K H1 L' P → G) : G := k (h.set m e)
theorem Own.cnewT {G : Prop} (h : Own K H L P) (e : updX H p (.tup vs) = H1) (f : H p = none) (k : Own K H1 L (.tup p vs :: P) → G) : G := k (h.newT f e)
theorem Own.cnew {G : Prop} (h : Own K H L P) (e : updX H p o = H1) (f : H p = none) (k : Own K H1 ((p, .raw o) :: L) P → G) : G := k (h.new f e)
theorem Own.make {C dx x : Addr} (h : Own K H L P) (f1 : H x = none) (f2 : H dx = none) (f3 : dx ≠ x) (e : upd (updX H dx (.own x)) x (.ins C dx []) = H1) : Own K H1 ((x, .raw (.ins C dx [])) :: L) P := by
  have h1 := h.new f2 (o := .own x) rfl
  have h2 := h1.new (p := x) (o := .ins C dx []) (by rw [upd_ne (Ne.symm f3)]; exact f1) e
  obtain ⟨M, nd, hl, hs, hp⟩ := h2.ex
  refine ⟨M, ?_, fun p hp' => hl p ?_, hs, hp⟩
  · simp only [List.map_cons, List.nodup_cons, List.mem_cons, not_or] at nd ⊢
    exact ⟨nd.1.2, nd.2.2⟩
  · rcases List.mem_cons.mp hp' with rfl | z
    · exact List.mem_cons_self
    · exact List.mem_cons_of_mem _ (List.mem_cons_of_mem _ z)
theorem Own.cmake {G : Prop} {C dx x : Addr} (h : Own K H L P) (f1 : H x = none) (f2 : H dx = none) (f3 : dx ≠ x) (e : upd (updX H dx (.own x)) x (.ins C dx []) = H1) (k : Own K H1 ((x, .raw (.ins C dx [])) :: L) P → G) : G := k (h.make f1 f2 f3 e)
theorem Own.raw (h : Own K H L P) (m : (a, Ob.raw o) ∈ L) : H a = some o := by
  obtain ⟨M, nd, hl, hs, hp⟩ := h.ex
  exact (hl _ m).1
theorem Own.ptup (h : Own K H L P) (m : Pf.tup t vs ∈ P) : H t = some (.tup vs) := by
  obtain ⟨M, nd, hl, hs, hp⟩ := h.ex
  exact hs _ _ (hp _ m)
theorem Own.plst (h : Own K H L P) (m : Pf.lst t vs ∈ P) : H t = some (.lst vs) := by
  obtain ⟨M, nd, hl, hs, hp⟩ := h.ex
  exact hs _ _ (hp _ m)
theorem Own.pdp (h : Own K H L P) (m : Pf.dp vs ds ∈ P) : DpAll K H vs ds := by
  obtain ⟨M, nd, hl, hs, hp⟩ := h.ex
  exact dpA_same hs _ _ (hp _ m)
theorem Own.psq (h : Own K H L P) (m : Pf.sq t vs ∈ P) : SqT K H t vs := by
  obtain ⟨M, nd, hl, hs, hp⟩ := h.ex
  exact sqt_same hs (hp _ m)
theorem Own.lst (h : Own K H L P) (m : (a, Ob.L ds) ∈ L) : ∃ vs, H a = some (.lst vs) ∧ DpAll K H vs ds := by
  obtain ⟨M, nd, hl, hs, hp⟩ := h.ex
  obtain ⟨vs, e, q⟩ := (hl _ m).1
  exact ⟨vs, e, dpA_same hs _ _ q⟩
/-- entries by other words of the same heap -/
theorem Own.re (h : Own K H L P) (m : At L a ob L') {P' : List Pf} (f : ∀ M : Hp, (∀ q ∈ P, q.ok K M) → (∀ b u, M b = some u → H b = some u) → (∀ o0, (a, o0) ∈ L → Hd K M H a o0) → Hd K M H a ob ∧ ∀ q ∈ P', q.ok K M) : Own K H L' P' := by
  obtain ⟨M, nd, hl, hs, hp⟩ := h.ex
  obtain ⟨x, o0, y, rfl, rfl⟩ := m.parts
  obtain ⟨g1, g2⟩ := f M hp hs fun o0 m => (hl _ m).1
  refine ⟨M, by rw [List.map_append, List.map_cons] at nd ⊢; exact nd, fun q hq => ?_, hs, g2⟩
  rcases List.mem_append.mp hq with z | z
  · exact hl q (List.mem_append.mpr (.inl z))
  · rcases List.mem_cons.mp z with rfl | z
    · exact ⟨g1, (hl (a, o0) (by simp)).2⟩
    · exact hl q (List.mem_append.mpr (.inr (List.mem_cons_of_mem _ z)))
theorem Own.openL (h : Own K H L P) (m : (a, Ob.L ds) ∈ L) : ∃ vs, ∀ L', At L a (.raw (.lst vs)) L' → Own K H L' (.dp vs ds :: P) := by
  obtain ⟨M, nd, hl, hs, hp⟩ := h.ex
  obtain ⟨vs, e, q⟩ := (hl _ m).1
  refine ⟨vs, fun L' m' => ?_⟩
  obtain ⟨x, o0, y, rfl, rfl⟩ := m'.parts
  refine ⟨M, by rw [List.map_append, List.map_cons] at nd ⊢; exact nd, fun z hz => ?_, hs, fun z hz => ?_⟩
  · rcases List.mem_append.mp hz with w | w
    · exact hl z (List.mem_append.mpr (.inl w))
    · rcases List.mem_cons.mp w with rfl | w
      · exact ⟨e, (hl (a, o0) (by simp)).2⟩
      · exact hl z (List.mem_append.mpr (.inr (List.mem_cons_of_mem _ w)))
  · rcases List.mem_cons.mp hz with rfl | hz
    · exact q
    · exact hp z hz
theorem Own.openD {kds : List (Key × PyData)} (h : Own K H L P) (m : (a, Ob.D kds) ∈ L) : ∃ kvs : List (Key × V), kvs.map Prod.fst = kds.map Prod.fst ∧ ∀ L', At L a (.raw (.dK kvs)) L' → Own K H L' (.dp (kvs.map Prod.snd) (kds.map Prod.snd) :: P) := by
  obtain ⟨M, nd, hl, hs, hp⟩ := h.ex
  obtain ⟨vs, e, k, q⟩ := (hl _ m).1
  refine ⟨vs, k, fun L' m' => ?_⟩
  obtain ⟨x, o0, y, rfl, rfl⟩ := m'.parts
  refine ⟨M, by rw [List.map_append, List.map_cons] at nd ⊢; exact nd, fun z hz => ?_, hs, fun z hz => ?_⟩
  · rcases List.mem_append.mp hz with w | w
    · exact hl z (List.mem_append.mpr (.inl w))
    · rcases List.mem_cons.mp w with rfl | w
      · exact ⟨e, (hl (a, o0) (by simp)).2⟩
      · exact hl z (List.mem_append.mpr (.inr (List.mem_cons_of_mem _ w)))
  · rcases List.mem_cons.mp hz with rfl | hz
    · exact q
    · exact hp z hz
theorem Own.openS {φ : HO → Prop} (h : Own K H L P) (m : (a, Ob.such φ) ∈ L) : ∃ o, φ o ∧ ∀ L', At L a (.raw o) L' → Own K H L' P := by
  obtain ⟨M, nd, hl, hs, hp⟩ := h.ex
  obtain ⟨o, e, q⟩ := (hl _ m).1
  refine ⟨o, q, fun L' m' => ?_⟩
  obtain ⟨x, o0, y, rfl, rfl⟩ := m'.parts
  refine ⟨M, by rw [List.map_append, List.map_cons] at nd ⊢; exact nd, fun z hz => ?_, hs, hp⟩
  rcases List.mem_append.mp hz with w | w
  · exact hl z (List.mem_append.mpr (.inl w))
  · rcases List.mem_cons.mp w with rfl | w
    · exact ⟨e, (hl (a, o0) (by simp)).2⟩
    · exact hl z (List.mem_append.mpr (.inr (List.mem_cons_of_mem _ w)))
theorem Own.derive (h : Own K H L P) {q : Pf} (f : ∀ M : Hp, (∀ q ∈ P, q.ok K M) → q.ok K M) : Own K H L (q :: P) := by
  obtain ⟨M, nd, hl, hs, hp⟩ := h.ex
  exact ⟨M, nd, hl, hs, fun r hr => (List.mem_cons.mp hr).elim (fun e => e ▸ f M hp) (hp r)⟩
/-! ### what follows of what is known -/
def Dv (K : PySem.W.Frag) (P : List Pf) (vs : List V) (ds : List PyData) : Prop := ∀ M : Hp, (∀ q ∈ P, q.ok K M) → DpAll K M vs ds
def Dv1 (K : PySem.W.Frag) (P : List Pf) (v : V) (d : PyData) : Prop := ∀ M : Hp, (∀ q ∈ P, q.ok K M) → Dp K M v d
theorem Dv.nil : Dv K P [] [] := fun _ _ => .nil
theorem Dv.cons {v : V} {d : PyData} (x : Dv1 K P v d) (y : Dv K P vs ds) : Dv K P (v :: vs) (d :: ds) := fun M h => .cons (x M h) (y M h)
theorem Dv.of (m : Pf.dp vs ds ∈ P) : Dv K P vs ds := fun M h => h _ m
theorem Dv.app (x : Dv K P vs ds) (y : Dv K P us es) : Dv K P (vs ++ us) (ds ++ es) := fun M h => L2.DpAll.app' (x M h) (y M h)
theorem Dv1.non : Dv1 K P .non .none := fun _ _ => .non
theorem Dv1.bl (b : Bool) : Dv1 K P (.bl b) (.bool b) := fun _ _ => .bl b
theorem Dv1.int (i : Int) : Dv1 K P (.int i) (.int i) := fun _ _ => .int i
theorem Dv1.str (x : Str) : Dv1 K P (.str x) (.str x) := fun _ _ => .str x
theorem Dv1.tup (m : Pf.tup t vs ∈ P) (x : Dv K P vs ds) : Dv1 K P (.ref t) (.tuple ds) := fun M h => .tup (SqT.of (h _ m)) (x M h)
theorem Dv1.lst (m : Pf.lst t vs ∈ P) (x : Dv K P vs ds) : Dv1 K P (.ref t) (.list ds) := fun M h => .lst (SqL.of (h _ m)) (x M h)
theorem Dv1.of {v : V} {d : PyData} (m : Pf.dp [v] [d] ∈ P) : Dv1 K P v d := fun M h => by cases h _ m with | cons x _ => exact x
theorem DpAll_split {M : Hp} : ∀ {a b : List V} {d e : List PyData}, L2.DpAll K M (a ++ b) (d ++ e) → a.length = d.length → L2.DpAll K M a d ∧ L2.DpAll K M b e
  | [], _, [], _, h, _ => ⟨.nil, h⟩
  | [], _, _ :: _, _, _, l => by simp at l
  | _ :: _, _, [], _, _, l => by simp at l
  | x :: a, b, y :: d, e, h, l => by
    cases h with
    | cons p q =>
      obtain ⟨r1, r2⟩ := DpAll_split (a := a) (b := b) (d := d) (e := e) q (by simpa using l)
      exact ⟨.cons p r1, r2⟩
theorem Dv.fst {us : List V} (x : Dv K P (vs ++ us) (ds ++ es)) (l : vs.length = ds.length) : Dv K P vs ds := fun M h => (DpAll_split (x M h) l).1
theorem Dv.snd {us : List V} (x : Dv K P (vs ++ us) (ds ++ es)) (l : vs.length = ds.length) : Dv K P us es := fun M h => (DpAll_split (x M h) l).2
theorem Dv.hd {v : V} {d : PyData} (x : Dv K P (v :: vs) (d :: ds)) : Dv1 K P v d := fun M h => by cases x M h with | cons y _ => exact y
theorem Dv.tl {v : V} {d : PyData} (x : Dv K P (v :: vs) (d :: ds)) : Dv K P vs ds := fun M h => by cases x M h with | cons _ y => exact y
theorem Own.pd1 {v : V} {d : PyData} (h : Own K H L P) (m : Pf.dp [v] [d] ∈ P) : Dp K H v d := by
  cases h.pdp m with
  | cons y _ => exact y
theorem Own.dpL (h : Own K H L P) (m : (a, Ob.L ds) ∈ L) : Dp K H (.ref a) (.list ds) := by
  obtain ⟨vs, e, q⟩ := h.lst m
  exact .lst (SqL.of e) q
theorem Dv.take (n : Nat) (x : Dv K P vs ds) : Dv K P (vs.take n) (ds.take n) := fun M h => (x M h).take n
theorem Dv.drop (n : Nat) (x : Dv K P vs ds) : Dv K P (vs.drop n) (ds.drop n) := fun M h => (x M h).drop n
theorem Dv.set {v : V} {d : PyData} (n : Nat) (y : Dv1 K P v d) (x : Dv K P vs ds) : Dv K P (vs.set n v) (ds.set n d) := fun M h => (x M h).set (y M h) n
theorem Dv.erase (n : Nat) (x : Dv K P vs ds) : Dv K P (vs.eraseIdx n) (ds.eraseIdx n) := fun M h => (x M h).erase n
theorem Dv.dropLast (x : Dv K P vs ds) : Dv K P vs.dropLast ds.dropLast := fun M h => (x M h).dropLast
theorem Dv.rev (x : Dv K P vs ds) : Dv K P vs.reverse ds.reverse := fun M h => (x M h).rev
theorem Dv.get {i : Nat} {v : V} {d : PyData} (x : Dv K P vs ds) (e1 : vs[i]? = some v) (e2 : ds[i]? = some d) : Dv1 K P v d := fun M h => (x M h).get' e1 e2
theorem Dv.ints (ns : List Int) : Dv K P (ns.map V.int) (ns.map PyData.int) := fun _ _ => dp_ints ns
theorem Own.dv (h : Own K H L P) (x : Dv K P vs ds) : Own K H L (.dp vs ds :: P) := h.derive x
theorem Own.dv1 {v : V} {d : PyData} (h : Own K H L P) (x : Dv1 K P v d) : Own K H L (.dp [v] [d] :: P) := h.derive fun M z => .cons (x M z) .nil
theorem Own.all (h : Own K H L P) (x : Dv K P vs ds) : DpAll K H vs ds := (h.dv x).pdp List.mem_cons_self
theorem Own.one {v : V} {d : PyData} (h : Own K H L P) (x : Dv1 K P v d) : Dp K H v d := by
  cases (h.dv1 x).pdp List.mem_cons_self with
  | cons y _ => exact y
theorem Own.setL (h : Own K H L P) (m : At L a (.L ds) L') (e : upd H a (.lst vs) = H1) (x : Dv K P vs ds) : Own K H1 L' P := h.setO m e fun M q => ⟨vs, upd_same, x M q⟩
theorem Own.setS {φ : HO → Prop} (h : Own K H L P) (m : At L a (.such φ) L') (e : upd H a o = H1) (x : φ o) : Own K H1 L' P := h.setO m e fun _ _ => ⟨o, upd_same, x⟩
theorem Own.setD {kvs : List (Key × V)} {kds : List (Key × PyData)} (h : Own K H L P) (m : At L a (.D kds) L') (e : upd H a (.dK kvs) = H1) (k : kvs.map Prod.fst = kds.map Prod.fst) (x : Dv K P (kvs.map Prod.snd) (kds.map Prod.snd)) : Own K H1 L' P := h.setO m e fun M q => ⟨kvs, upd_same, k, x M q⟩
theorem Own.closeL (h : Own K H L P) (m : (a, Ob.raw (.lst vs)) ∈ L) (x : Dv K P vs ds) (m' : At L a (.L ds) L') : Own K H L' P := h.re m' fun M q hs hd => ⟨⟨vs, hd _ m, x M q⟩, q⟩
theorem Own.closeS {φ : HO → Prop} (h : Own K H L P) (m : (a, Ob.raw o) ∈ L) (x : φ o) (m' : At L a (.such φ) L') : Own K H L' P := h.re m' fun M q hs hd => ⟨⟨o, hd _ m, x⟩, q⟩
theorem Own.closeD {kvs : List (Key × V)} {kds : List (Key × PyData)} (h : Own K H L P) (m : (a, Ob.raw (.dK kvs)) ∈ L) (k : kvs.map Prod.fst = kds.map Prod.fst) (x : Dv K P (kvs.map Prod.snd) (kds.map Prod.snd)) (m' : At L a (.D kds) L') : Own K H L' P := h.re m' fun M q hs hd => ⟨⟨kvs, hd _ m, k, x M q⟩, q⟩
/-! ### blocks out of a list, and less -/
def Pk (L B R : List (Addr × Ob)) : Prop := L.Perm (B ++ R)
theorem Pk.one {p : Addr × Ob} : Pk (p :: R) [p] R := List.Perm.refl _
theorem Pk.here : Pk (B ++ R) B R := List.Perm.refl _
theorem Pk.all : Pk B B [] := by unfold Pk; rw [List.append_nil]
theorem Pk.skip1 {p : Addr × Ob} (h : Pk L B R) : Pk (p :: L) B (p :: R) := (h.cons p).trans List.perm_middle.symm
theorem Pk.skipB {A : List (Addr × Ob)} (h : Pk L B R) : Pk (A ++ L) B (A ++ R) := by
  unfold Pk at h ⊢
  refine (List.Perm.append_left A h).trans ?_
  rw [← List.append_assoc, ← List.append_assoc]
  exact List.Perm.append_right R List.perm_append_comm
/-- what stands by one word stands by another -/
def Ft (K : PySem.W.Frag) (P : List Pf) (o' o : Ob) : Prop := ∀ (M H : Hp) (a : Addr), (∀ q ∈ P, q.ok K M) → Hd K M H a o' → Hd K M H a o
theorem Ft.refl {o : Ob} : Ft K P o o := fun _ _ _ _ h => h
theorem Ft.eq {o' o : Ob} (e : o' = o) : Ft K P o' o := e ▸ Ft.refl
theorem Ft.lst {us vs : List V} (e : us = vs) : Ft K P (.raw (.lst us)) (.raw (.lst vs)) := e ▸ Ft.refl
theorem Ft.ins {C dx : Addr} {us vs : List (Str × V)} (e : us = vs) : Ft K P (.raw (.ins C dx us)) (.raw (.ins C dx vs)) := e ▸ Ft.refl
theorem Ft.dK {us vs : List (Key × V)} (e : us = vs) : Ft K P (.raw (.dK us)) (.raw (.dK vs)) := e ▸ Ft.refl
theorem Ft.toL (x : Dv K P vs ds) : Ft K P (.raw (.lst vs)) (.L ds) := fun M _ _ q h => ⟨vs, h, x M q⟩
theorem Ft.toS {φ : HO → Prop} {o : HO} (x : φ o) : Ft K P (.raw o) (.such φ) := fun _ _ _ _ h => ⟨o, h, x⟩
theorem Ft.toD {kvs : List (Key × V)} {kds : List (Key × PyData)} (k : kvs.map Prod.fst = kds.map Prod.fst) (x : Dv K P (kvs.map Prod.snd) (kds.map Prod.snd)) : Ft K P (.raw (.dK kvs)) (.D kds) := fun M _ _ q h => ⟨kvs, h, k, x M q⟩
theorem Ft.Le {ds es : List PyData} (e : ds = es) : Ft K P (.L ds) (.L es) := e ▸ Ft.refl
theorem Ft.De {ds es : List (Key × PyData)} (e : ds = es) : Ft K P (.D ds) (.D es) := e ▸ Ft.refl
theorem Ft.S {φ ψ : HO → Prop} (e : ∀ o, φ o → ψ o) : Ft K P (.such φ) (.such ψ) := fun _ _ _ _ ⟨o, h, x⟩ => ⟨o, h, e o x⟩
inductive Al (K : PySem.W.Frag) (P : List Pf) : List (Addr × Ob) → List (Addr × Ob) → Prop
  | nil : Al K P [] []
  | cons {a : Addr} {o' o : Ob} {L' L : List (Addr × Ob)} : Ft K P o' o → Al K P L' L → Al K P ((a, o') :: L') ((a, o) :: L)
theorem Al.refl : ∀ L : List (Addr × Ob), Al K P L L
  | [] => .nil
  | (_, _) :: t => .cons Ft.refl (Al.refl t)
theorem Al.app {A A' B B' : List (Addr × Ob)} (x : Al K P A A') (y : Al K P B B') : Al K P (A ++ B) (A' ++ B') := by
  induction x with
  | nil => exact y
  | cons f _ ih => exact .cons f ih
theorem Al.fst {A A' : List (Addr × Ob)} (x : Al K P A A') : A.map Prod.fst = A'.map Prod.fst := by
  induction x with
  | nil => rfl
  | cons f _ ih => rw [List.map_cons, List.map_cons, ih]
theorem Al.hd {A A' : List (Addr × Ob)} (x : Al K P A A') {M H : Hp} (q : ∀ q ∈ P, q.ok K M) (h : ∀ p ∈ A, Hd K M H p.1 p.2 ∧ M p.1 = none) : ∀ p ∈ A', Hd K M H p.1 p.2 ∧ M p.1 = none := by
  induction x with
  | nil => exact fun _ z => nomatch z
  | cons f _ ih =>
    intro p hp
    rcases List.mem_cons.mp hp with rfl | hp
    · have := h _ List.mem_cons_self
      exact ⟨f _ _ _ q this.1, this.2⟩
    · exact ih (fun p hp => h p (List.mem_cons_of_mem _ hp)) p hp
/-- L' out of L -/
def Sb (K : PySem.W.Frag) (P : List Pf) (L' L : List (Addr × Ob)) : Prop := ∃ L1 R, L.Perm (L1 ++ R) ∧ Al K P L1 L'
theorem Sb.refl (L : List (Addr × Ob)) : Sb K P L L := ⟨L, [], by rw [List.append_nil], Al.refl L⟩
theorem Sb.nil : Sb K P [] L := ⟨[], L, List.Perm.refl _, .nil⟩
theorem Sb.app (x : Pk L B R) (y : Sb K P L' R) : Sb K P (B ++ L') L := by
  obtain ⟨L1, z, e, al⟩ := y
  exact ⟨B ++ L1, z, x.trans (by rw [List.append_assoc]; exact List.Perm.append_left B e), Al.app (Al.refl B) al⟩
theorem Sb.cons {o' : Ob} (x : Pk L [(a, o')] R) (f : Ft K P o' ob) (y : Sb K P L' R) : Sb K P ((a, ob) :: L') L := by
  obtain ⟨L1, z, e, al⟩ := y
  exact ⟨(a, o') :: L1, z, x.trans (List.Perm.append_left [(a, o')] e), .cons f al⟩
theorem Sb.skip {p : Addr × Ob} (y : Sb K P L' L) : Sb K P L' (p :: L) := by
  obtain ⟨L1, z, e, al⟩ := y
  exact ⟨L1, p :: z, (e.cons p).trans List.perm_middle.symm, al⟩
theorem Sb.skipB {A : List (Addr × Ob)} (y : Sb K P L' L) : Sb K P L' (A ++ L) := by
  obtain ⟨L1, z, e, al⟩ := y
  refine ⟨L1, A ++ z, (List.Perm.append_left A e).trans ?_, al⟩
  rw [← List.append_assoc, ← List.append_assoc]
  exact List.Perm.append_right z List.perm_append_comm
def Ps (P' P : List Pf) : Prop := ∀ r ∈ P', r ∈ P
theorem Ps.refl : Ps P P := fun _ h => h
theorem Ps.nil : Ps [] P := fun _ h => nomatch h
theorem Ps.skip {q : Pf} (h : Ps P' P) : Ps P' (q :: P) := fun r hr => List.mem_cons_of_mem _ (h r hr)
theorem Ps.cons {q : Pf} (m : q ∈ P) (h : Ps P' P) : Ps (q :: P') P := fun r hr => (List.mem_cons.mp hr).elim (fun e => e ▸ m) (h r)
theorem Own.sub (h : Own K H L P) (s : Sb K P L' L) (q : Ps P' P) : Own K H L' P' := by
  obtain ⟨M, nd, hl, hs, hp⟩ := h.ex
  obtain ⟨L1, z, e, al⟩ := s
  have nd' := (e.map Prod.fst).nodup_iff.mp nd
  rw [List.map_append, List.nodup_append, al.fst] at nd'
  exact ⟨M, nd'.1, al.hd hp fun p hp' => hl p (e.mem_iff.mpr (List.mem_append.mpr (.inl hp'))), hs, fun r hr => hp r (q r hr)⟩
theorem Own.pick (h : Own K H L P) (m : Pk L B R) : Own K H (B ++ R) P := h.sub ⟨B ++ R, [], by rw [List.append_nil]; exact m, Al.refl _⟩ Ps.refl
/-- a flat value -/
def fv : PyData → V
  | .int i => .int i
  | .bool b => .bl b
  | .str x => .str x
  | _ => .non
def flatD : PyData → Bool
  | .int _ => true
  | .bool _ => true
  | .str _ => true
  | .none => true
  | _ => false
theorem dp_flat {M : Hp} : ∀ {d : PyData} {v : V}, Dp K M v d → flatD d = true → v = fv d
  | _, _, .non, _ => rfl
  | _, _, .bl _, _ => rfl
  | _, _, .int _, _ => rfl
  | _, _, .str _, _ => rfl
  | _, _, .lst _ _, h => nomatch h
  | _, _, .tup _ _, h => nomatch h
theorem dp_flats {M : Hp} : ∀ {vs : List V} {ds : List PyData}, DpAll K M vs ds → ds.all flatD = true → vs = ds.map fv
  | _, _, .nil, _ => rfl
  | _, _, .cons x y, h => by
    rw [List.all_cons, Bool.and_eq_true] at h
    rw [List.map_cons, ← dp_flat x h.1, ← dp_flats y h.2]
/-- a tuple of flat values opened -/
theorem Own.opn {v : V} {ds : List PyData} (h : Own K H L P) (x : Dv1 K P v (.tuple ds)) (hf : ds.all flatD = true := by rfl) : ∃ t, v = .ref t ∧ Own K H L (.sq t (ds.map fv) :: P) := by
  obtain ⟨M, nd, hl, hs, hp⟩ := h.ex
  cases x M hp with
  | @tup t xs _ hq ha =>
    refine ⟨t, rfl, M, nd, hl, hs, fun q hq' => ?_⟩
    rcases List.mem_cons.mp hq' with rfl | hq'
    · rw [← dp_flats ha hf]; exact hq
    · exact hp q hq'
/-- a list that is given up: it never changes any more -/
theorem Own.give (h : Own K H L P) (m : Pk L [(a, Ob.raw (.lst vs))] R) : Own K H R (.lst a vs :: P) := by
  have h2 : Own K H ((a, Ob.raw (.lst vs)) :: R) P := h.pick m
  obtain ⟨M, nd, hl, hs, hp⟩ := h2.ex
  rw [List.map_cons, List.nodup_cons] at nd
  have ha : H a = some (.lst vs) := (hl (a, Ob.raw (.lst vs)) List.mem_cons_self).1
  have ma : M a = none := (hl (a, Ob.raw (.lst vs)) List.mem_cons_self).2
  have sm : Same M (upd M a (.lst vs)) := same_upd ma
  refine ⟨upd M a (.lst vs), nd.2, fun q hq => ?_, fun b u hb => ?_, fun r hr => ?_⟩
  · have n : q.1 ≠ a := fun z => nd.1 (List.mem_map.mpr ⟨q, hq, z⟩)
    have := hl q (List.mem_cons_of_mem _ hq)
    exact ⟨this.1.same sm rfl, by rw [upd_ne n]; exact this.2⟩
  · by_cases z : b = a
    · subst z; rw [upd_same] at hb; rw [ha]; exact hb
    · rw [upd_ne z] at hb; exact hs _ _ hb
  · rcases List.mem_cons.mp hr with rfl | hr
    · exact (upd_same : upd M a (.lst vs) a = _)
    · exact r.same sm (hp r hr)
theorem Own.none_of (h : Own K H L P) (f : H p = none) : ∀ q ∈ L, q.1 ≠ p := fun q hq z => by
  obtain ⟨M, nd, hl, hs, hp⟩ := h.ex
  obtain ⟨u, hu⟩ := (hl q hq).1.some; rw [z, f] at hu; cases hu
/-- owned of nothing: a start -/
theorem Own.start {K : PySem.W.Frag} {H : Hp} : Own K H [] [] := ⟨fun _ => none, by simp, fun _ h => (nomatch h), fun _ _ h => (nomatch h), fun _ h => (nomatch h)⟩
theorem pg_trip {X : Cx} {i j l : Nat} {x y z : Str} {p1 p2 p3 pos : Pos} {kk : Nat} (hc : X.calm = true) (hN : X.N.Nodup) (hi : X.N[i]? = some x) (hj : X.N[j]? = some y) (hl : X.N[l]? = some z) (hx : Loc X.env.scope x) (hy : Loc X.env.scope y) (hz : Loc X.env.scope z)
    (hf : X.fn x = true ∨ X.env.scope.names.lookup x = some .local := by first | exact .inl rfl | exact .inr rfl | assumption) (hf2 : X.fn y = true ∨ X.env.scope.names.lookup y = some .local := by first | exact .inl rfl | exact .inr rfl | assumption) (hf3 : X.fn z = true ∨ X.env.scope.names.lookup z = some .local := by first | exact .inl rfl | exact .inr rfl | assumption)
    (hn : (assignEach [Expr.Name x p1, .Name y p2, .Name z p3] X.env).length = 3 := by rfl) (hst : (assignEach [Expr.Name x p1, .Name y p2, .Name z p3] X.env).findIdx? (·.1) = none := by rfl)
    (hs : (assignEach [Expr.Name x p1, .Name y p2, .Name z p3] X.env).map (·.2) = assign (.Name x p1) X.env :: (assignEach [Expr.Name y p2, .Name z p3] X.env).map (·.2) := by rfl)
    (hs2 : (assignEach [Expr.Name y p2, .Name z p3] X.env).map (·.2) = assign (.Name y p2) X.env :: (assignEach [Expr.Name z p3] X.env).map (·.2) := by rfl)
    (hs3 : (assignEach [Expr.Name z p3] X.env).map (·.2) = assign (.Name z p3) X.env :: (assignEach [] X.env).map (·.2) := by rfl) :
    PG X (.Tuple [.Name x p1, .Name y p2, .Name z p3] kk pos) (gTup X.K 3 (gCons (gName i) (gCons (gName j) (gCons (gName l) gNil)))) :=
  pg_tup hc (pgs_cons (pg_name hN hi hx hf) (pgs_cons (pg_name hN hj hy hf2) (pgs_cons (pg_name hN hl hz hf3) pgs_nil hs3) hs2) hs) hn hst
theorem kit_self' {K : PySem.W.Frag} {C : Addr} : PySem.W.kitOne K (.ref C) (.ref C) = some true := if_pos (beq_self_eq_true _)
/-! ### comprehensions -/
section
variable {g : TG} {te : TE} {tt : TT} {wv : List Nat} {σ : L2.St} {D : Addr} {Qd : Hp → Prop} {xs : List V}
theorem own_app {i : Nat} {y : V} {d : PyData} {vs : List V} (q' : Own K H ((D, .L ds) :: L) P) (ev : H D = some (.lst vs)) (dv : Dv1 K P y d) : Own K (upd H D (.lst (vs ++ [y]))) ((D, .L (ds ++ [d])) :: L) P := by
  refine q'.setU .head rfl fun M hp ho => ⟨vs ++ [y], upd_same, ?_⟩
  obtain ⟨vs', ev', dvs⟩ := ho _ List.mem_cons_self
  rw [ev] at ev'
  cases ev'
  exact L2.DpAll.app' dvs (.cons (dv M hp) .nil)
/-- a new list of data, over any walk -/
theorem lc_ownW {J : It} {n : Nat} {G : Hp → Prop} {Y : Nat → Hp → V → Hp → Prop} (w : Walk J n G Y) (ds : List PyData) (h : Own K H1 L P) (hD : H1 D = none) (hx : n = ds.length) (hz : n ≤ 10000)
    (ha : ∀ (H : Hp) (L' : List (Addr × Ob)) (P' : List Pf), (∀ p ∈ L, p ∈ L') → Ps P P' → Own K H L' P' → G H)
    (hs : ∀ (i : Nat) (x : V) (d : PyData) (H H' : Hp) (P' : List Pf) (Q : VK), i < n → Y i H x H' → ds[i]? = some d → Ps P P' → Own K H ((D, .L (ds.take i)) :: L) P' →
      (∀ (y : V) (H'' : Hp) (P'' : List Pf), Ps P' P'' → Own K H'' ((D, .L (ds.take i)) :: L) P'' → Dv1 K P'' y d → Q y H'') → g x (wipe σ wv) H' fun σ2 H2 => wipe σ2 wv = wipe σ wv ∧ te σ2 H2 Q)
    (hd : ∀ (H' : Hp) (P' : List Pf), Ps P P' → Own K H' ((D, .L ds) :: L) P' → Qd H') :
    ∃ W : Nat → Nat → Hp → Prop, (∃ m, W 0 m (upd H1 D (.lst []))) ∧ ∀ i m H, W i m H →
      (J.stop i H ∧ Qd H) ∨ (J.go i H ∧ ∃ Nx : Hp → Prop, (∀ H', Nx H' → ∃ m', m' < m ∧ W (i + 1) m' H') ∧ ∀ x H', J.yld i H x H' → g x (wipe σ wv) H' fun σ2 H2 => wipe σ2 wv = wipe σ wv ∧ tYes σ2 H2 fun b H3 =>
        if b = true then te σ2 H3 fun y H4 => ∃ acc, H4 D = some (.lst acc) ∧ acc.length < sizeLine ∧ Nx (upd H4 D (.lst (acc ++ [y]))) else Nx H3) := by
  refine lc_it w (fun i H => ∃ P', Ps P P' ∧ Own K H ((D, .L (ds.take i)) :: L) P') ⟨P, Ps.refl, ?_⟩ (fun i H _ ⟨P', s, q⟩ => ha H _ P' (fun p m => List.mem_cons_of_mem _ m) s q) (fun i x H H' hi ⟨P', s, q⟩ y => ?_) (fun H ⟨P', s, q⟩ => hd H P' s (by rw [List.take_of_length_le (by omega)] at q; exact q))
  · have h2 := h.new hD (o := .lst []) rfl
    exact h2.closeL (vs := []) List.mem_cons_self (by rw [List.take_zero]; exact Dv.nil) .head
  · have hi2 : i < ds.length := by omega
    refine hs i x ds[i] H H' P' _ hi y (List.getElem?_eq_getElem hi2) s q (fun y H'' P'' s' q' dv => ?_)
    obtain ⟨vs, ev, dvs⟩ := q'.lst List.mem_cons_self
    have len := dvs.len
    rw [List.length_take] at len
    refine ⟨vs, ev, size_lt (by omega), P'', fun r m => s' r (s r m), ?_⟩
    rw [List.take_add_one, List.getElem?_eq_getElem hi2]
    exact own_app (i := i) q' ev dv
/-- the same of flat values, as they are -/
theorem lc_rawW {J : It} {n : Nat} {G : Hp → Prop} {Y : Nat → Hp → V → Hp → Prop} (w : Walk J n G Y) (ys : List V) (h : Own K H1 L P) (hD : H1 D = none) (hx : n = ys.length) (hz : n ≤ 10000)
    (ha : ∀ (H : Hp) (L' : List (Addr × Ob)) (P' : List Pf), (∀ p ∈ L, p ∈ L') → Ps P P' → Own K H L' P' → G H)
    (hs : ∀ (i : Nat) (x y : V) (H H' : Hp) (P' : List Pf) (Q : VK), i < n → Y i H x H' → ys[i]? = some y → Ps P P' → Own K H ((D, .raw (.lst (ys.take i))) :: L) P' →
      (∀ (H'' : Hp) (P'' : List Pf), Ps P' P'' → Own K H'' ((D, .raw (.lst (ys.take i))) :: L) P'' → Q y H'') → g x (wipe σ wv) H' fun σ2 H2 => wipe σ2 wv = wipe σ wv ∧ te σ2 H2 Q)
    (hd : ∀ (H' : Hp) (P' : List Pf), Ps P P' → Own K H' ((D, .raw (.lst ys)) :: L) P' → Qd H') :
    ∃ W : Nat → Nat → Hp → Prop, (∃ m, W 0 m (upd H1 D (.lst []))) ∧ ∀ i m H, W i m H →
      (J.stop i H ∧ Qd H) ∨ (J.go i H ∧ ∃ Nx : Hp → Prop, (∀ H', Nx H' → ∃ m', m' < m ∧ W (i + 1) m' H') ∧ ∀ x H', J.yld i H x H' → g x (wipe σ wv) H' fun σ2 H2 => wipe σ2 wv = wipe σ wv ∧ tYes σ2 H2 fun b H3 =>
        if b = true then te σ2 H3 fun y H4 => ∃ acc, H4 D = some (.lst acc) ∧ acc.length < sizeLine ∧ Nx (upd H4 D (.lst (acc ++ [y]))) else Nx H3) := by
  refine lc_it w (fun i H => ∃ P', Ps P P' ∧ Own K H ((D, .raw (.lst (ys.take i))) :: L) P') ⟨P, Ps.refl, ?_⟩ (fun i H _ ⟨P', s, q⟩ => ha H _ P' (fun p m => List.mem_cons_of_mem _ m) s q) (fun i x H H' hi ⟨P', s, q⟩ y => ?_) (fun H ⟨P', s, q⟩ => hd H P' s (by rw [List.take_of_length_le (by omega)] at q; exact q))
  · rw [List.take_zero]; exact h.new hD rfl
  · have hi2 : i < ys.length := by omega
    refine hs i x ys[i] H H' P' _ hi y (List.getElem?_eq_getElem hi2) s q (fun H'' P'' s' q' => ?_)
    refine ⟨ys.take i, q'.raw List.mem_cons_self, size_lt (by rw [List.length_take]; omega), P'', fun r m => s' r (s r m), ?_⟩
    rw [List.take_add_one, List.getElem?_eq_getElem hi2]
    exact q'.set .head rfl
/-- sifted: those of zs that t takes, as they are; tt tells t, te the thing -/
theorem lc_siftW {α : Type} {J : It} {G : Hp → Prop} {Y : Nat → Hp → V → Hp → Prop} (zs : List α) (f : α → V) (t : α → Bool) (w : Walk J zs.length G Y) (h : Own K H1 L P) (hD : H1 D = none) (hz : zs.length ≤ 10000)
    (ha : ∀ (H : Hp) (L' : List (Addr × Ob)) (P' : List Pf), (∀ p ∈ L, p ∈ L') → Ps P P' → Own K H L' P' → G H)
    (hs : ∀ (i : Nat) (z : α) (x : V) (H H' : Hp) (P' : List Pf) (ys : List V) (Qn : Hp → Prop) (Qy : VK), zs[i]? = some z → Y i H x H' → Ps P P' → Own K H ((D, .raw (.lst ys)) :: L) P' →
      (t z = false → ∀ (H'' : Hp) (P'' : List Pf), Ps P' P'' → Own K H'' ((D, .raw (.lst ys)) :: L) P'' → Qn H'') →
      (t z = true → ∀ (H'' : Hp) (P'' : List Pf), Ps P' P'' → Own K H'' ((D, .raw (.lst ys)) :: L) P'' → Qy (f z) H'') → g x (wipe σ wv) H' fun σ2 H2 => wipe σ2 wv = wipe σ wv ∧ tt σ2 H2 fun b H3 => if b = true then te σ2 H3 Qy else Qn H3)
    (hd : ∀ (H' : Hp) (P' : List Pf), Ps P P' → Own K H' ((D, .raw (.lst ((zs.filter t).map f))) :: L) P' → Qd H') :
    ∃ W : Nat → Nat → Hp → Prop, (∃ m, W 0 m (upd H1 D (.lst []))) ∧ ∀ i m H, W i m H →
      (J.stop i H ∧ Qd H) ∨ (J.go i H ∧ ∃ Nx : Hp → Prop, (∀ H', Nx H' → ∃ m', m' < m ∧ W (i + 1) m' H') ∧ ∀ x H', J.yld i H x H' → g x (wipe σ wv) H' fun σ2 H2 => wipe σ2 wv = wipe σ wv ∧ tt σ2 H2 fun b H3 =>
        if b = true then te σ2 H3 fun y H4 => ∃ acc, H4 D = some (.lst acc) ∧ acc.length < sizeLine ∧ Nx (upd H4 D (.lst (acc ++ [y]))) else Nx H3) := by
  refine lc_it w (fun i H => ∃ P', Ps P P' ∧ Own K H ((D, .raw (.lst (((zs.take i).filter t).map f))) :: L) P') ⟨P, Ps.refl, ?_⟩ (fun i H _ ⟨P', s, q⟩ => ha H _ P' (fun p m => List.mem_cons_of_mem _ m) s q) (fun i x H H' hi ⟨P', s, q⟩ y => ?_) (fun H ⟨P', s, q⟩ => hd H P' s (by rw [List.take_of_length_le (by omega)] at q; exact q))
  · rw [List.take_zero]; exact h.new hD rfl
  · have et : zs.take (i + 1) = zs.take i ++ [zs[i]] := by rw [List.take_add_one, List.getElem?_eq_getElem hi]; rfl
    refine hs i zs[i] x H H' P' _ _ _ (List.getElem?_eq_getElem hi) y s q (fun tn H'' P'' s' q' => ⟨P'', fun r m => s' r (s r m), ?_⟩) (fun ty H'' P'' s' q' => ?_)
    · rw [et, List.filter_append, List.filter_cons, tn]; simpa using q'
    · refine ⟨_, q'.raw List.mem_cons_self, size_lt (by rw [List.length_map]; exact Nat.le_trans (List.length_filter_le _ _) (by rw [List.length_take]; omega)), P'', fun r m => s' r (s r m), ?_⟩
      have e2 : ((zs.take (i + 1)).filter t).map f = ((zs.take i).filter t).map f ++ [f zs[i]] := by rw [et, List.filter_append, List.filter_cons, ty]; simp
      rw [e2]
      exact q'.set .head rfl
end
/-! ### the pot -/
def PotO (o : HO) : Prop := ∃ x y : Int, o = .lst [.int x, .int y] ∧ 0 ≤ x ∧ 0 ≤ y ∧ y < 4294967296
def pt (a : Addr) : List (Addr × Ob) := [(a, .such PotO)]
/-- called with the pot and how many: a number below that, and the pot is still one -/
def spDrw (K : PySem.W.Frag) : Sp := fun vs H Q _ => ∃ (a : Addr) (n : Int) (R : List (Addr × Ob)) (P : List Pf), vs = [.ref a, .int n] ∧ Own K H (pt a ++ R) P ∧ 0 < n ∧ n < 1073741824 ∧
  ∀ (d : Int) (H' : Hp), 0 ≤ d → d < n → Own K H' (pt a ++ R) P → Q (.int d) H'
end Hx

set_option Elab.async false
set_option linter.all false
set_option maxRecDepth 100000
set_option maxHeartbeats 4000000
/-! cuts: what holds behind a statement, behind a test, is said once for all ways that come there -/
namespace Hx
open PySem PySem.Spec PyProof.Rows L2
def tMid (t : TS) : TS := fun D σ H => Stop (∃ Mid : L2.St → Hp → Prop, t { D with nx := Mid } σ H ∧ ∀ σ' H', Mid σ' H' → D.nx σ' H')
theorem ps_mid {X : Cx} {st : Stmt} {t : TS} (h : PS X st t) : PS X st (tMid t) := by
  refine ⟨fun pins s σ H D I q => ?_⟩
  obtain ⟨Mid, q, r⟩ := q.h
  refine thn (h.run pins s σ H { D with nx := Mid } I q) fun f s1 q => ?_
  cases f with
  | next =>
    obtain ⟨σ', H', I', q⟩ := q
    exact ⟨σ', H', I', r _ _ q⟩
  | ret v => exact q
  | brk => exact q
  | cont => exact q
def tTMid (t : TT) : TT := fun σ H Q => Stop (∃ Mid : Bool → Hp → Prop, t σ H Mid ∧ ∀ b H', Mid b H' → Q b H')
theorem pt_mid {X : Cx} {c : Expr} {t : TT} (h : PT X c t) : PT X c (tTMid t) := by
  refine ⟨fun pins s σ H Q I q => ?_⟩
  obtain ⟨Mid, q, r⟩ := q.h
  refine thn (h.run pins s σ H Mid I q) fun d s1 q => ?_
  obtain ⟨H1, I1, q⟩ := q
  exact ⟨H1, I1, r _ _ q⟩
def tEMid (t : TE) : TE := fun σ H Q => Stop (∃ Mid : VK, t σ H Mid ∧ ∀ v H', Mid v H' → Q v H')
theorem pe_mid {X : Cx} {e : Expr} {t : TE} (h : PE X e t) : PE X e (tEMid t) := by
  refine ⟨fun pins s σ H Q I q => ?_⟩
  obtain ⟨Mid, q, r⟩ := q.h
  refine thn (h.run pins s σ H Mid I q) fun d s1 q => ?_
  obtain ⟨v, H1, I1, rv, q⟩ := q
  exact ⟨v, H1, I1, rv, r _ _ q⟩
theorem Ps.trans {P P' P'' : List Pf} (h : Ps P P') (k : Ps P' P'') : Ps P P'' := fun r hr => k r (h r hr)
end Hx

set_option Elab.async false
set_option linter.all false
set_option maxRecDepth 100000
set_option maxHeartbeats 4000000
/-! HsDict: dicts with keys of ints in owned heaps: look-ups, stores, walks under a lock, comprehensions; sorted lists -/
namespace Hx
open PySem PySem.Spec PyProof.Rows L2
/-- a target x, (y, z) -/
theorem pg_pairN {X : Cx} {i j l : Nat} {x y z : Str} {p1 p2 p3 pos pos2 : Pos} {kk kk2 : Nat} (hc : X.calm = true) (hN : X.N.Nodup) (hi : X.N[i]? = some x) (hj : X.N[j]? = some y) (hl : X.N[l]? = some z) (hx : Loc X.env.scope x) (hy : Loc X.env.scope y) (hz : Loc X.env.scope z)
    (hf : X.fn x = true ∨ X.env.scope.names.lookup x = some .local := by first | exact .inl rfl | exact .inr rfl | assumption) (hf2 : X.fn y = true ∨ X.env.scope.names.lookup y = some .local := by first | exact .inl rfl | exact .inr rfl | assumption) (hf3 : X.fn z = true ∨ X.env.scope.names.lookup z = some .local := by first | exact .inl rfl | exact .inr rfl | assumption)
    (hn : (assignEach [Expr.Name x p1, .Tuple [.Name y p2, .Name z p3] kk2 pos2] X.env).length = 2 := by rfl) (hst : (assignEach [Expr.Name x p1, .Tuple [.Name y p2, .Name z p3] kk2 pos2] X.env).findIdx? (·.1) = none := by rfl)
    (hs : (assignEach [Expr.Name x p1, .Tuple [.Name y p2, .Name z p3] kk2 pos2] X.env).map (·.2) = assign (.Name x p1) X.env :: (assignEach [Expr.Tuple [.Name y p2, .Name z p3] kk2 pos2] X.env).map (·.2) := by rfl)
    (hs2 : (assignEach [Expr.Tuple [.Name y p2, .Name z p3] kk2 pos2] X.env).map (·.2) = assign (.Tuple [.Name y p2, .Name z p3] kk2 pos2) X.env :: (assignEach [] X.env).map (·.2) := by rfl)
    (hn' : (assignEach [Expr.Name y p2, .Name z p3] X.env).length = 2 := by rfl) (hst' : (assignEach [Expr.Name y p2, .Name z p3] X.env).findIdx? (·.1) = none := by rfl)
    (hs' : (assignEach [Expr.Name y p2, .Name z p3] X.env).map (·.2) = assign (.Name y p2) X.env :: (assignEach [Expr.Name z p3] X.env).map (·.2) := by rfl)
    (hs2' : (assignEach [Expr.Name z p3] X.env).map (·.2) = assign (.Name z p3) X.env :: (assignEach [] X.env).map (·.2) := by rfl) :
    PG X (.Tuple [.Name x p1, .Tuple [.Name y p2, .Name z p3] kk2 pos2] kk pos) (gTup X.K 2 (gCons (gName i) (gCons (gTup X.K 2 (gCons (gName j) (gCons (gName l) gNil))) gNil))) :=
  pg_tup hc (pgs_cons (pg_name hN hi hx hf) (pgs_cons (pg_pair hc hN hj hl hy hz hf2 hf3 hn' hst' hs' hs2') pgs_nil hs2) hs) hn hst
/-! ### pairs as tables, of data -/
def valD (kds : List (Key × PyData)) (k : Key) : Option PyData := (kds.find? fun kv => decide (kv.1 = k)).map (·.2)
def putD (kds : List (Key × PyData)) (k : Key) (d : PyData) : List (Key × PyData) :=
  if (kds.any fun kv => decide (kv.1 = k)) = true then kds.map (fun kv => if kv.1 = k then (kv.1, d) else kv) else kds ++ [(k, d)]
def dropD (kds : List (Key × PyData)) (k : Key) : List (Key × PyData) := kds.filter fun kv => decide (kv.1 ≠ k)
section
variable {K : PySem.W.Frag} {P : List Pf}
theorem keys_cons {p : Key × V} {kvs : List (Key × V)} {q : Key × PyData} {kds : List (Key × PyData)} (h : (p :: kvs).map Prod.fst = (q :: kds).map Prod.fst) : p.1 = q.1 ∧ kvs.map Prod.fst = kds.map Prod.fst := by
  simpa using h
theorem valV_isSome : ∀ {kvs : List (Key × V)} {kds : List (Key × PyData)} (k : Key), kvs.map Prod.fst = kds.map Prod.fst → (valV kvs k).isSome = (valD kds k).isSome
  | [], [], _, _ => rfl
  | [], _ :: _, _, h => by simp at h
  | _ :: _, [], _, h => by simp at h
  | p :: kvs, q :: kds, k, h => by
    obtain ⟨h1, h2⟩ := keys_cons h
    have ih := valV_isSome k h2
    by_cases e : p.1 = k
    · have e2 : q.1 = k := h1 ▸ e
      simp [valV, valD, List.find?_cons, e, e2]
    · have e2 : ¬ q.1 = k := h1 ▸ e
      simp only [valV, valD] at ih
      simp [valV, valD, List.find?_cons, e, e2, ih]
theorem valV_dp {M : Hp} : ∀ {kvs : List (Key × V)} {kds : List (Key × PyData)} {k : Key} {v : V} {d : PyData}, kvs.map Prod.fst = kds.map Prod.fst → DpAll K M (kvs.map Prod.snd) (kds.map Prod.snd) → valV kvs k = some v → valD kds k = some d → Dp K M v d
  | [], _, k, v, d, _, _, e, _ => by simp [valV] at e
  | _ :: _, [], _, _, _, h, _, _, _ => by simp at h
  | p :: kvs, q :: kds, k, v, d, h, hd, e1, e2 => by
    obtain ⟨h1, h2⟩ := keys_cons h
    cases hd with
    | cons x y =>
      by_cases e : p.1 = k
      · have e' : q.1 = k := h1 ▸ e
        simp [valV, List.find?_cons, e] at e1
        simp [valD, List.find?_cons, e'] at e2
        subst e1; subst e2
        exact x
      · have e' : ¬ q.1 = k := h1 ▸ e
        refine valV_dp (k := k) h2 y ?_ ?_
        · simpa [valV, List.find?_cons, e] using e1
        · simpa [valD, List.find?_cons, e'] using e2
theorem Dv.val {kvs : List (Key × V)} {kds : List (Key × PyData)} {k : Key} {v : V} {d : PyData} (x : Dv K P (kvs.map Prod.snd) (kds.map Prod.snd)) (hk : kvs.map Prod.fst = kds.map Prod.fst) (e1 : valV kvs k = some v) (e2 : valD kds k = some d) : Dv1 K P v d := fun M h => valV_dp hk (x M h) e1 e2
theorem valV_of {kvs : List (Key × V)} {kds : List (Key × PyData)} {k : Key} {d : PyData} (hk : kvs.map Prod.fst = kds.map Prod.fst) (e : valD kds k = some d) : ∃ v, valV kvs k = some v := by
  have := valV_isSome k hk
  rw [e] at this
  exact Option.isSome_iff_exists.mp this
theorem valV_ofN {kvs : List (Key × V)} {kds : List (Key × PyData)} {k : Key} (hk : kvs.map Prod.fst = kds.map Prod.fst) (e : valD kds k = none) : valV kvs k = none := by
  have := valV_isSome k hk
  rw [e] at this
  exact Option.not_isSome_iff_eq_none.mp (by rw [this]; decide)
theorem any_keys : ∀ {kvs : List (Key × V)} {kds : List (Key × PyData)} (k : Key), kvs.map Prod.fst = kds.map Prod.fst → (kvs.any fun kv => decide (kv.1 = k)) = (kds.any fun kv => decide (kv.1 = k))
  | [], [], _, _ => rfl
  | [], _ :: _, _, h => by simp at h
  | _ :: _, [], _, h => by simp at h
  | p :: kvs, q :: kds, k, h => by
    obtain ⟨h1, h2⟩ := keys_cons h
    rw [List.any_cons, List.any_cons, any_keys k h2, h1]
theorem putK_fst {kvs : List (Key × V)} {kds : List (Key × PyData)} (hk : kvs.map Prod.fst = kds.map Prod.fst) (k : Key) (v : V) (d : PyData) : (putK kvs k v).map Prod.fst = (putD kds k d).map Prod.fst := by
  have e : ∀ {α : Type} (y : α) (l : List (Key × α)), (l.map fun kv => if kv.1 = k then (kv.1, y) else kv).map Prod.fst = l.map Prod.fst := fun y l => by
    rw [List.map_map]
    refine List.map_congr_left fun kv _ => ?_
    simp only [Function.comp]
    split <;> rfl
  unfold putK putD
  rw [any_keys k hk]
  split
  · rw [e, e, hk]
  · rw [List.map_append, List.map_append, hk]; rfl
theorem put_dp {M : Hp} : ∀ {kvs : List (Key × V)} {kds : List (Key × PyData)} {k : Key} {v : V} {d : PyData}, kvs.map Prod.fst = kds.map Prod.fst → DpAll K M (kvs.map Prod.snd) (kds.map Prod.snd) → Dp K M v d →
    DpAll K M ((kvs.map fun kv => if kv.1 = k then (kv.1, v) else kv).map Prod.snd) ((kds.map fun kv => if kv.1 = k then (kv.1, d) else kv).map Prod.snd)
  | [], [], _, _, _, _, _, _ => .nil
  | [], _ :: _, _, _, _, h, _, _ => by simp at h
  | _ :: _, [], _, _, _, h, _, _ => by simp at h
  | p :: kvs, q :: kds, k, v, d, h, hd, x => by
    obtain ⟨h1, h2⟩ := keys_cons h
    cases hd with
    | cons a b =>
      have ih := put_dp (k := k) h2 b x
      simp only [List.map_cons]
      refine .cons ?_ ih
      by_cases e : p.1 = k
      · rw [if_pos e, if_pos (h1 ▸ e)]; exact x
      · rw [if_neg e, if_neg (h1 ▸ e)]; exact a
theorem Dv.put {kvs : List (Key × V)} {kds : List (Key × PyData)} {k : Key} {v : V} {d : PyData} (x : Dv K P (kvs.map Prod.snd) (kds.map Prod.snd)) (hk : kvs.map Prod.fst = kds.map Prod.fst) (y : Dv1 K P v d) : Dv K P ((putK kvs k v).map Prod.snd) ((putD kds k d).map Prod.snd) := fun M h => by
  unfold putK putD
  rw [any_keys k hk]
  split
  · exact put_dp hk (x M h) (y M h)
  · rw [List.map_append, List.map_append]
    exact L2.DpAll.app' (x M h) (.cons (y M h) .nil)
theorem dropK_fst : ∀ {kvs : List (Key × V)} {kds : List (Key × PyData)} (k : Key), kvs.map Prod.fst = kds.map Prod.fst → (dropK kvs k).map Prod.fst = (dropD kds k).map Prod.fst
  | [], [], _, _ => rfl
  | [], _ :: _, _, h => by simp at h
  | _ :: _, [], _, h => by simp at h
  | p :: kvs, q :: kds, k, h => by
    obtain ⟨h1, h2⟩ := keys_cons h
    have ih := dropK_fst k h2
    unfold dropK dropD at ih ⊢
    rw [List.filter_cons, List.filter_cons, h1]
    split
    · rw [List.map_cons, List.map_cons, ih, h1]
    · exact ih
theorem drop_dp {M : Hp} : ∀ {kvs : List (Key × V)} {kds : List (Key × PyData)} {k : Key}, kvs.map Prod.fst = kds.map Prod.fst → DpAll K M (kvs.map Prod.snd) (kds.map Prod.snd) → DpAll K M ((dropK kvs k).map Prod.snd) ((dropD kds k).map Prod.snd)
  | [], [], _, _, _ => .nil
  | [], _ :: _, _, h, _ => by simp at h
  | _ :: _, [], _, h, _ => by simp at h
  | p :: kvs, q :: kds, k, h, hd => by
    obtain ⟨h1, h2⟩ := keys_cons h
    cases hd with
    | cons a b =>
      have ih := drop_dp (k := k) h2 b
      unfold dropK dropD at ih ⊢
      rw [List.filter_cons, List.filter_cons, h1]
      split
      · exact .cons a ih
      · exact ih
theorem Dv.drop' {kvs : List (Key × V)} {kds : List (Key × PyData)} {k : Key} (x : Dv K P (kvs.map Prod.snd) (kds.map Prod.snd)) (hk : kvs.map Prod.fst = kds.map Prod.fst) : Dv K P ((dropK kvs k).map Prod.snd) ((dropD kds k).map Prod.snd) := fun M h => drop_dp hk (x M h)
/-! rows as a table -/
theorem valD_rows {α : Type} (key : α → Int) (dat : α → PyData) (rs : List α) (n : Int) : valD (rs.map fun r => (Sum.inl (key r), dat r)) (Sum.inl n) = (rs.find? fun r => decide (key r = n)).map dat := by
  unfold valD
  rw [List.find?_map, Option.map_map]
  congr 1
  congr 1
  funext r
  simp [Function.comp]
theorem dropD_rows {α : Type} (key : α → Int) (dat : α → PyData) (rs : List α) (n : Int) : dropD (rs.map fun r => (Sum.inl (key r), dat r)) (Sum.inl n) = (rs.filter fun r => decide (key r ≠ n)).map fun r => (Sum.inl (key r), dat r) := by
  unfold dropD
  rw [List.filter_map]
  congr 1
  congr 1
  funext r
  simp [Function.comp]
theorem putD_new {kds : List (Key × PyData)} {k : Key} {d : PyData} (h : valD kds k = none) : putD kds k d = kds ++ [(k, d)] := by
  unfold putD
  rw [if_neg]
  intro e
  obtain ⟨x, hx, he⟩ := List.any_eq_true.mp e
  unfold valD at h
  rw [Option.map_eq_none_iff, List.find?_eq_none] at h
  exact h x hx he
theorem putD_rows {α : Type} (key : α → Int) (dat : α → PyData) (rs : List α) (n : Int) (d : PyData) (f : α → α) (hin : ∃ r ∈ rs, key r = n) (hk : ∀ r, key (f r) = key r) (hd : ∀ r ∈ rs, key r = n → dat (f r) = d) (ho : ∀ r ∈ rs, key r ≠ n → f r = r) :
    putD (rs.map fun r => (Sum.inl (key r), dat r)) (Sum.inl n) d = (rs.map f).map fun r => (Sum.inl (key r), dat r) := by
  unfold putD
  rw [if_pos]
  · rw [List.map_map, List.map_map]
    refine List.map_congr_left fun r hr => ?_
    simp only [Function.comp]
    by_cases e : key r = n
    · rw [if_pos (by rw [e]), hk, hd r hr e]
    · rw [if_neg (fun z => e (by injection z)), ho r hr e]
  · obtain ⟨r, hr, e⟩ := hin
    rw [List.any_map]
    exact List.any_eq_true.mpr ⟨r, hr, by simp [Function.comp, e]⟩
end
/-! ### walker's facts -/
theorem DGet.ki {H : Hp} {a : Addr} {kvs : List (Key × V)} {n : Int} {o : Option V} (e : H a = some (.dK kvs)) (h : valV kvs (Sum.inl n) = o) : DGet H a (.int n) o := h ▸ DGet.k (k := Sum.inl n) e
theorem DGet.kiF {H : Hp} {a : Addr} {kvs : List (Key × V)} {n : Int} {o : Option V} {od : Obj} (e : H a = some (.frz od (.dK kvs))) (h : valV kvs (Sum.inl n) = o) : DGet H a (.int n) o := h ▸ .inl ⟨kvs, Sum.inl n, .inr ⟨od, e⟩, rfl, rfl⟩
theorem DPut.ki {H : Hp} {a : Addr} {kvs : List (Key × V)} {n : Int} {v : V} (e : H a = some (.dK kvs)) (hl : kvs.length < sizeLine) : DPut H a (.int n) v (upd H a (.dK (putK kvs (Sum.inl n) v))) := DPut.k (k := Sum.inl n) e hl
theorem at0 (v : V) (l : List V) : atI (v :: l) 0 = some v := by
  have h := atI_nat (xs := v :: l) (j := 0) (v := v) rfl
  exact h
theorem at1 (u v : V) (l : List V) : atI (u :: v :: l) 1 = some v := by
  have h := atI_nat (xs := u :: v :: l) (j := 1) (v := v) rfl
  exact h
theorem at2 (t u v : V) (l : List V) : atI (t :: u :: v :: l) 2 = some v := by
  have h := atI_nat (xs := t :: u :: v :: l) (j := 2) (v := v) rfl
  exact h
theorem isSome_ofV {o : Option V} {v : V} (h : o = some v) : o.isSome = true := by rw [h]; rfl
theorem kV_int {n : Int} : V.int n = kV (Sum.inl n) := rfl
/-! ### locks at which the walker stops -/
def tLockS (t : TS) : TS := fun D σ H => Stop (tLock t D σ H)
def tLockES (t : TE) : TE := fun σ H Q => Stop (tLockE t σ H Q)
theorem tLockS_eq (t : TS) : tLockS t = tLock t := by funext D σ H; exact stop_eq
theorem tLockES_eq (t : TE) : tLockES t = tLockE t := by funext σ H Q; exact stop_eq
theorem ps_lockS {X : Cx} {st : Stmt} {t : TS} (h : PS X st t) : PS X st (tLockS t) := by rw [tLockS_eq]; exact ps_lock h
theorem pe_lockS {X : Cx} {e : Expr} {t : TE} (h : PE X e t) : PE X e (tLockES t) := by rw [tLockES_eq]; exact pe_lock h
variable {K : PySem.W.Frag} {H H1 M : Hp} {L L' R B : List (Addr × Ob)} {P P' : List Pf} {a d : Addr} {u : HO}
theorem Own.lockE {t : TE} {σ : L2.St} {Q : VK} (h : Own K H L P) (m : (d, Ob.raw u) ∈ L) (hm : Mut (some u)) (k : ∀ (od : Obj) (H1 : Hp), (∀ L', At L d (.raw (.frz od u)) L' → Own K H1 L' P) → t σ H1 fun v H' => H' d = some (.frz od u) ∧ Q v (upd H' d u)) : tLockES t σ H Q :=
  ⟨⟨d, u, h.raw m, hm, fun od => k od _ fun L' m' => h.set m' rfl⟩⟩
theorem Own.lockS {t : TS} {σ : L2.St} {D : L2.Ends} (h : Own K H L P) (m : (d, Ob.raw u) ∈ L) (hm : Mut (some u)) (k : ∀ (od : Obj) (H1 : Hp), (∀ L', At L d (.raw (.frz od u)) L' → Own K H1 L' P) →
    t ⟨fun σ' H' => H' d = some (.frz od u) ∧ D.nx σ' (upd H' d u), fun v H' => H' d = some (.frz od u) ∧ D.rt v (upd H' d u), fun σ' H' => H' d = some (.frz od u) ∧ D.bk σ' (upd H' d u), fun σ' H' => H' d = some (.frz od u) ∧ D.ct σ' (upd H' d u)⟩ σ H1) : tLockS t D σ H :=
  ⟨⟨d, u, h.raw m, hm, fun od => k od _ fun L' m' => h.set m' rfl⟩⟩
/-! ### a tuple of any data opened -/
theorem Own.opnD {v : V} {ds : List PyData} (h : Own K H L P) (x : Dv1 K P v (.tuple ds)) : ∃ t vs, v = .ref t ∧ vs.length = ds.length ∧ Own K H L (.sq t vs :: .dp vs ds :: P) := by
  obtain ⟨M, nd, hl, hs, hp⟩ := h.ex
  cases x M hp with
  | @tup t xs _ hq ha =>
    refine ⟨t, xs, rfl, ha.len, M, nd, hl, hs, fun q hq' => ?_⟩
    rcases List.mem_cons.mp hq' with rfl | hq'
    · exact hq
    rcases List.mem_cons.mp hq' with rfl | hq'
    · exact ha
    · exact hp q hq'
theorem Own.opn2 {v : V} {x y : PyData} (h : Own K H L P) (q : Dv1 K P v (.tuple [x, y])) : ∃ t a b, v = .ref t ∧ Own K H L (.sq t [a, b] :: .dp [a] [x] :: .dp [b] [y] :: P) := by
  obtain ⟨t, vs, e, hl, o⟩ := h.opnD q
  match vs, hl with
  | [a, b], _ =>
    refine ⟨t, a, b, e, ?_⟩
    have dv : Dv K (.sq t [a, b] :: .dp [a, b] [x, y] :: P) [a, b] [x, y] := Dv.of (List.mem_cons_of_mem _ List.mem_cons_self)
    have o2 := o.dv1 dv.tl.hd
    have o3 := o2.dv1 (v := a) (d := x) (fun M hM => dv.hd M fun q hq => hM q (List.mem_cons_of_mem _ hq))
    refine o3.sub (Sb.refl _) fun r hr => ?_
    simp only [List.mem_cons] at hr ⊢
    rcases hr with rfl | rfl | rfl | hr
    · simp
    · simp
    · simp
    · simp [hr]
theorem Dv1.mono {v : V} {d : PyData} (h : Dv1 K P v d) (s : Ps P P') : Dv1 K P' v d := fun M q => h M fun r hr => q r (s r hr)
theorem Dv.mono {vs : List V} {ds : List PyData} (h : Dv K P vs ds) (s : Ps P P') : Dv K P' vs ds := fun M q => h M fun r hr => q r (s r hr)
theorem Dv1.intD {v : V} {i : Int} (h : Dv1 K P v (.int i)) (o : Own K H L P) : v = .int i := by
  cases o.one h with | int _ => rfl
abbrev rMax2 : List V → Hp → VK → Prop := fun xs H Q => ∃ i j, xs = [.int i, .int j] ∧ Q (.int (if j > i then j else i)) H
/-! ### comprehensions of dicts -/
section
variable {g : TG} {te tk tv : TE} {tt : TT} {wv : List Nat} {σ : L2.St} {D : Addr} {Qd : Hp → Prop}
theorem dc_it {J : It} {n : Nat} {G : Hp → Prop} {Y : Nat → Hp → V → Hp → Prop} (w : Walk J n G Y) (Pv : Nat → Hp → Prop) (h0 : Pv 0 (upd H1 D (.dK []))) (hG : ∀ i H, i ≤ n → Pv i H → G H)
    (hs : ∀ i x H H', i < n → Pv i H → Y i H x H' → g x (wipe σ wv) H' fun σ2 H2 => wipe σ2 wv = wipe σ wv ∧ tt σ2 H2 fun b H3 =>
      if b = true then tk σ2 H3 fun y H4 => tv σ2 H4 fun z H5 => ∃ kvs k, y = kV k ∧ H5 D = some (.dK kvs) ∧ kvs.length < sizeLine ∧ Pv (i + 1) (upd H5 D (.dK (putK kvs k z))) else Pv (i + 1) H3) (hd : ∀ H, Pv n H → Qd H) :
    ∃ W : Nat → Nat → Hp → Prop, (∃ m, W 0 m (upd H1 D (.dK []))) ∧ ∀ i m H, W i m H →
      (J.stop i H ∧ Qd H) ∨ (J.go i H ∧ ∃ Nx : Hp → Prop, (∀ H', Nx H' → ∃ m', m' < m ∧ W (i + 1) m' H') ∧ ∀ x H', J.yld i H x H' → g x (wipe σ wv) H' fun σ2 H2 => wipe σ2 wv = wipe σ wv ∧ tt σ2 H2 fun b H3 =>
        if b = true then tk σ2 H3 fun y H4 => tv σ2 H4 fun z H5 => ∃ kvs k, y = kV k ∧ H5 D = some (.dK kvs) ∧ kvs.length < sizeLine ∧ Nx (upd H5 D (.dK (putK kvs k z))) else Nx H3) := by
  refine ⟨fun i m H => m = n - i ∧ i ≤ n ∧ Pv i H, ⟨n, by simp, Nat.zero_le _, h0⟩, ?_⟩
  rintro i m H ⟨rfl, hi, p⟩
  have q := hG i H hi p
  by_cases hlt : i < n
  · refine .inr ⟨w.goes i H hlt q, Pv (i + 1), fun H' p' => ⟨n - (i + 1), by omega, rfl, hlt, p'⟩, fun x H' y => hs i x H H' hlt p (w.yields i H x H' hlt q y)⟩
  · have e : i = n := by omega
    subst e
    exact .inl ⟨w.stops H q, hd H p⟩
/-- a new dict by a walk, sifted; its keys are all different -/
theorem dc_siftW {α : Type} {J : It} {G : Hp → Prop} {Y : Nat → Hp → V → Hp → Prop} (zs : List α) (key : α → Int) (dat : α → PyData) (t : α → Bool) (nd : (zs.map key).Nodup) (w : Walk J zs.length G Y) (h : Own K H1 L P) (hD : H1 D = none) (hz : zs.length ≤ 10000)
    (ha : ∀ (H : Hp) (L' : List (Addr × Ob)) (P' : List Pf), (∀ p ∈ L, p ∈ L') → Ps P P' → Own K H L' P' → G H)
    (hs : ∀ (i : Nat) (z : α) (x : V) (H H' : Hp) (P' : List Pf) (kds : List (Key × PyData)) (Qn : Hp → Prop) (Qy : V → V → Hp → Prop), zs[i]? = some z → Y i H x H' → Ps P P' → Own K H ((D, .D kds) :: L) P' →
      (t z = false → ∀ (H'' : Hp) (P'' : List Pf), Ps P' P'' → Own K H'' ((D, .D kds) :: L) P'' → Qn H'') →
      (t z = true → ∀ (y : V) (H'' : Hp) (P'' : List Pf), Ps P' P'' → Own K H'' ((D, .D kds) :: L) P'' → Dv1 K P'' y (dat z) → Qy (.int (key z)) y H'') →
      g x (wipe σ wv) H' fun σ2 H2 => wipe σ2 wv = wipe σ wv ∧ tt σ2 H2 fun b H3 => if b = true then tk σ2 H3 fun y H4 => tv σ2 H4 fun z H5 => Qy y z H5 else Qn H3)
    (hd : ∀ (H' : Hp) (P' : List Pf), Ps P P' → Own K H' ((D, .D ((zs.filter t).map fun z => (Sum.inl (key z), dat z))) :: L) P' → Qd H') :
    ∃ W : Nat → Nat → Hp → Prop, (∃ m, W 0 m (upd H1 D (.dK []))) ∧ ∀ i m H, W i m H →
      (J.stop i H ∧ Qd H) ∨ (J.go i H ∧ ∃ Nx : Hp → Prop, (∀ H', Nx H' → ∃ m', m' < m ∧ W (i + 1) m' H') ∧ ∀ x H', J.yld i H x H' → g x (wipe σ wv) H' fun σ2 H2 => wipe σ2 wv = wipe σ wv ∧ tt σ2 H2 fun b H3 =>
        if b = true then tk σ2 H3 fun y H4 => tv σ2 H4 fun z H5 => ∃ kvs k, y = kV k ∧ H5 D = some (.dK kvs) ∧ kvs.length < sizeLine ∧ Nx (upd H5 D (.dK (putK kvs k z))) else Nx H3) := by
  refine dc_it w (fun i H => ∃ P', Ps P P' ∧ Own K H ((D, .D (((zs.take i).filter t).map fun z => (Sum.inl (key z), dat z))) :: L) P') ⟨P, Ps.refl, ?_⟩ (fun i H _ ⟨P', s, q⟩ => ha H _ P' (fun p m => List.mem_cons_of_mem _ m) s q) (fun i x H H' hi ⟨P', s, q⟩ y => ?_) (fun H ⟨P', s, q⟩ => hd H P' s (by rw [List.take_of_length_le (Nat.le_refl _)] at q; exact q))
  · have h2 := h.new hD (o := .dK []) rfl
    exact h2.closeD (kvs := []) List.mem_cons_self (by rw [List.take_zero]; rfl) (by rw [List.take_zero]; exact Dv.nil) .head
  · have et : zs.take (i + 1) = zs.take i ++ [zs[i]] := by rw [List.take_add_one, List.getElem?_eq_getElem hi]; rfl
    refine hs i zs[i] x H H' P' _ _ _ (List.getElem?_eq_getElem hi) y s q (fun tn H'' P'' s' q' => ⟨P'', fun r m => s' r (s r m), ?_⟩) (fun ty y H'' P'' s' q' dv => ?_)
    · rw [et, List.filter_append, List.filter_cons, tn]; simpa using q'
    · obtain ⟨kvs, hk, o1⟩ := q'.openD List.mem_cons_self
      have hlen : kvs.length = (((zs.take i).filter t).map fun z => ((Sum.inl (key z) : Key), dat z)).length := by simpa using congrArg List.length hk
      have hraw : H'' D = some (.dK kvs) := (o1 _ .head).raw List.mem_cons_self
      refine ⟨kvs, Sum.inl (key zs[i]), rfl, hraw, size_lt (by
        rw [hlen, List.length_map]
        exact Nat.le_trans (List.length_filter_le _ _) (by rw [List.length_take]; omega)), P'', fun r m => s' r (s r m), ?_⟩
      have nv : valD (((zs.take i).filter t).map fun z => (Sum.inl (key z), dat z)) (Sum.inl (key zs[i])) = none := by
        rw [valD_rows, Option.map_eq_none_iff, List.find?_eq_none]
        intro r hr e
        have hr' := (List.mem_filter.mp hr).1
        have e' : key r = key zs[i] := of_decide_eq_true e
        have nd2 : ((zs.take (i + 1)).map key).Nodup := (nd.sublist ((List.take_sublist _ _).map key))
        rw [et, List.map_append, List.nodup_append] at nd2
        exact nd2.2.2 (key r) (List.mem_map_of_mem hr') (key zs[i]) (by simp) e'
      have e2 : ((zs.take (i + 1)).filter t).map (fun z => ((Sum.inl (key z) : Key), dat z)) = putD (((zs.take i).filter t).map fun z => (Sum.inl (key z), dat z)) (Sum.inl (key zs[i])) (dat zs[i]) := by
        rw [putD_new nv, et, List.filter_append, List.filter_cons, ty]; simp
      rw [e2]
      have q3 := o1 _ .head
      refine Own.sub (q3.setO (o := .dK (putK kvs (Sum.inl (key zs[i])) y)) (ob := .D (putD (((zs.take i).filter t).map fun z => (Sum.inl (key z), dat z)) (Sum.inl (key zs[i])) (dat zs[i]))) .head rfl fun M hp => ⟨putK kvs (Sum.inl (key zs[i])) y, upd_same, putK_fst hk _ _ _, ?_⟩) (Sb.refl _) (Ps.skip Ps.refl)
      exact (Dv.put (P := .dp (kvs.map Prod.snd) ((((zs.take i).filter t).map fun z => ((Sum.inl (key z) : Key), dat z)).map Prod.snd) :: P'') (Dv.of List.mem_cons_self) hk (fun M h => dv M fun q hq => h q (List.mem_cons_of_mem _ hq))) M hp
end
theorem walk_ints {K : PySem.W.Frag} {a : Addr} {ns : List Int} : Walk (Itl K a) ns.length (fun H => SqL K H a (ns.map V.int)) (YAt (ns.map V.int)) := by
  have w := walk_list (K := K) (a := a) (xs := ns.map V.int)
  rw [List.length_map] at w
  exact w
/-! ### sorted lists of ints -/
theorem sorted_eq : ∀ {xs ys : List Int}, xs.Perm ys → xs.Pairwise (· ≤ ·) → ys.Pairwise (· ≤ ·) → xs = ys
  | [], ys, p, _, _ => by
    have := p.length_eq
    simp at this
    exact (List.eq_nil_of_length_eq_zero this.symm).symm
  | x :: xs, [], p, _, _ => by
    have := p.length_eq
    simp at this
  | x :: xs, y :: ys, p, hx, hy => by
    have h1 := List.pairwise_cons.mp hx
    have h2 := List.pairwise_cons.mp hy
    have e : x = y := by
      have a : x ∈ y :: ys := p.mem_iff.mp List.mem_cons_self
      have b : y ∈ x :: xs := p.mem_iff.mpr List.mem_cons_self
      rcases List.mem_cons.mp a with a | a
      · exact a
      rcases List.mem_cons.mp b with b | b
      · exact b.symm
      · have := h1.1 y b
        have := h2.1 x a
        omega
    subst e
    rw [sorted_eq (List.Perm.cons_inv p) h1.2 h2.2]
/-- the rising list -/
def srt (xs : List Int) : List Int := xs.mergeSort (fun a b => decide (a ≤ b))
theorem srt_perm (xs : List Int) : (srt xs).Perm xs := List.mergeSort_perm _ _
theorem srt_pw (xs : List Int) : (srt xs).Pairwise (· ≤ ·) := by
  have := List.pairwise_mergeSort (le := fun a b : Int => decide (a ≤ b)) (fun a b c h1 h2 => by simp at h1 h2 ⊢; omega) (fun a b => by simp; omega) xs
  exact this.imp fun h => by simpa using h
theorem srt_of {xs ys : List Int} (p : ys.Perm xs) (h : ys.Pairwise (· ≤ ·)) : ys = srt xs := sorted_eq (p.trans (srt_perm xs).symm) h (srt_pw xs)
theorem srt_eq {xs ys : List Int} (p : xs.Perm ys) : srt xs = srt ys := sorted_eq ((srt_perm xs).trans (p.trans (srt_perm ys).symm)) (srt_pw _) (srt_pw _)
theorem srt_len (xs : List Int) : (srt xs).length = xs.length := (srt_perm xs).length_eq
theorem srt_mem {xs : List Int} {x : Int} : x ∈ srt xs ↔ x ∈ xs := (srt_perm xs).mem_iff
theorem srt_filter (xs : List Int) (p : Int → Bool) : (srt xs).filter p = srt (xs.filter p) := srt_of ((srt_perm xs).filter p) ((srt_pw xs).filter p)
theorem srt_rev {xs ys : List Int} (p : ys.Perm xs) (h : ys.Pairwise (· ≥ ·)) : ys = (srt xs).reverse := by
  have e : ys.reverse = srt xs := srt_of ((List.reverse_perm ys).trans p) (List.pairwise_reverse.mpr h)
  rw [← e, List.reverse_reverse]
/-! ### a dict beside an empty one -/
theorem op_dE {X : Cx} (hu : X.A.units < cLine) (op : CmpOp) (t : Bool → Bool) (hop : (op = .Eq ∧ t = id) ∨ (op = .NotEq ∧ t = not)) : OpR X (compareOp op) (fun x y H Q => ∃ (a b : Addr) (kvs : List (Key × V)), x = .ref a ∧ y = .ref b ∧ H a = some (.dK kvs) ∧ H b = some (.dK []) ∧ Q (.bl (t kvs.isEmpty)) H) := by
  intro pins s σ H x y v u Q I rx ry hh
  obtain ⟨a, b, kvs, rfl, rfl, e1, e2, q⟩ := hh
  have rx' : v = Value.ref a := rx
  have ry' : u = Value.ref b := ry
  subst rx' ry'
  obtain ⟨_, n1, v1, r1, d1⟩ := (show ObjOk X.prog X.w H s.heap a (.dK kvs) from I.hok a _ e1)
  obtain ⟨_, n2, v2, r2, d2⟩ := (show ObjOk X.prog X.w H s.heap b (.dK []) from I.hok b _ e2)
  have l2 : v2.length = 0 := by rw [← r2.length]; rfl
  have l1 : v1.length = kvs.length := r1.length.symm
  have hz : v1.length = v2.length → kvs = [] := fun e => List.eq_nil_of_length_eq_zero (by omega)
  have hh : v1.length = v2.length → PySem.W.KeqHits X.A.in1 s v2 v1 true := fun e => by
    have := hz e
    subst this
    exact hits_all r2 r1 (fun p hp => nomatch hp)
  have eb : (v1.length == v2.length && true) = kvs.isEmpty := by
    rw [l1, l2]
    cases kvs <;> simp
  rcases hop with ⟨rfl, rfl⟩ | ⟨rfl, rfl⟩
  · exact PySem.W.keq_eq (r := true) n1 n2 d1 d2 hu hh (fin_bl I q (by rw [eb]; rfl))
  · exact PySem.W.keq_ne (r := true) n1 n2 d1 d2 hu hh (fin_bl I q (by rw [eb]))
theorem op_neE {X : Cx} (hu : X.A.units + 64 < cLine) : OpR X (compareOp .NotEq) (fun x y H Q => ∃ (a b : Addr) (kvs : List (Key × V)), x = .ref a ∧ y = .ref b ∧ H a = some (.dK kvs) ∧ H b = some (.dK []) ∧ Q (.bl (!kvs.isEmpty)) H) := op_dE (by omega) .NotEq not (.inr ⟨rfl, rfl⟩)
/-! ### strictly rising lists -/
theorem ris_eq : ∀ {xs ys : List Int}, (∀ z, z ∈ xs ↔ z ∈ ys) → xs.Pairwise (· < ·) → ys.Pairwise (· < ·) → xs = ys
  | [], [], _, _, _ => rfl
  | [], y :: ys, h, _, _ => nomatch (h y).mpr List.mem_cons_self
  | x :: xs, [], h, _, _ => nomatch (h x).mp List.mem_cons_self
  | x :: xs, y :: ys, h, hx, hy => by
    have h1 := List.pairwise_cons.mp hx
    have h2 := List.pairwise_cons.mp hy
    have e : x = y := by
      rcases List.mem_cons.mp ((h x).mp List.mem_cons_self) with a | a
      · exact a
      rcases List.mem_cons.mp ((h y).mpr List.mem_cons_self) with b | b
      · exact b.symm
      · have := h1.1 y b
        have := h2.1 x a
        omega
    subst e
    refine congrArg (x :: ·) (ris_eq (fun z => ?_) h1.2 h2.2)
    have := h z
    simp only [List.mem_cons] at this
    constructor
    · intro hz
      rcases this.mp (.inr hz) with e | e
      · have := h1.1 z hz; omega
      · exact e
    · intro hz
      rcases this.mpr (.inr hz) with e | e
      · have := h2.1 z hz; omega
      · exact e
/-- put in where it belongs, unless it is there -/
def insU (x : Int) : List Int → List Int
  | [] => [x]
  | y :: ys => if x < y then x :: y :: ys else if x = y then y :: ys else y :: insU x ys
/-- each once, rising -/
def uq (xs : List Int) : List Int := xs.foldr insU []
theorem insU_mem {x z : Int} : ∀ {l : List Int}, z ∈ insU x l ↔ z = x ∨ z ∈ l
  | [] => by simp [insU]
  | y :: ys => by
    unfold insU
    split
    · simp
    · split
      · rename_i h; subst h; simp
      · simp [insU_mem (l := ys)]
        constructor
        · rintro (h | h | h) <;> simp [h]
        · rintro (h | h | h) <;> simp [h]
theorem insU_pw {x : Int} : ∀ {l : List Int}, l.Pairwise (· < ·) → (insU x l).Pairwise (· < ·)
  | [], _ => by simp [insU]
  | y :: ys, h => by
    have h1 := List.pairwise_cons.mp h
    unfold insU
    split
    · rename_i hl
      refine List.pairwise_cons.mpr ⟨fun z hz => ?_, h⟩
      rcases List.mem_cons.mp hz with rfl | hz
      · exact hl
      · have := h1.1 z hz; omega
    · split
      · exact h
      · refine List.pairwise_cons.mpr ⟨fun z hz => ?_, insU_pw h1.2⟩
        rcases insU_mem.mp hz with rfl | hz
        · omega
        · exact h1.1 z hz
theorem uq_mem {xs : List Int} {z : Int} : z ∈ uq xs ↔ z ∈ xs := by
  induction xs with
  | nil => simp [uq]
  | cons x xs ih => simp only [uq, List.foldr_cons] at ih ⊢; rw [insU_mem, ih, List.mem_cons]
theorem uq_pw (xs : List Int) : (uq xs).Pairwise (· < ·) := by
  induction xs with
  | nil => simp [uq]
  | cons x xs ih => exact insU_pw ih
theorem uq_of {xs ys : List Int} (h : ys.Pairwise (· < ·)) (k : ∀ z, z ∈ ys ↔ z ∈ xs) : ys = uq xs := ris_eq (fun z => by rw [k, uq_mem]) h (uq_pw xs)
theorem insU_len (x : Int) : ∀ l : List Int, (insU x l).length ≤ l.length + 1
  | [] => by simp [insU]
  | y :: ys => by
    have := insU_len x ys
    unfold insU
    split
    · simp
    · split <;> simp <;> omega
theorem uq_len (xs : List Int) : (uq xs).length ≤ xs.length := by
  induction xs with
  | nil => simp [uq]
  | cons x xs ih =>
    simp only [uq, List.foldr_cons, List.length_cons] at ih ⊢
    exact Nat.le_trans (insU_len _ _) (by omega)
end Hx

set_option Elab.async false
set_option linter.all false
set_option maxRecDepth 100000
set_option maxHeartbeats 4000000
/-! enumerate(xs, start=k) over a list or a tuple; lists sifted out of a walk, their items data -/
namespace Hx
open PySem PySem.Spec PyProof.Rows L2
theorem callWith_typeK {M : Model} {A : Around} {E : Value → Shared → Prop} {s : Shared} {env : Env} {pos : Pos} {T : String} {e : Expr} {rest : List Expr} {kws : List Keyword} {Q : Value → Shared → Prop}
    (h : wpAny M A (spliced (backTo pos (starEach (e :: rest) env))) (fun vs s₁ => wpAny M A (evalAll ((backToKw pos (keywordEach kws env)).map (·.2)))
      (fun kvs s₂ => wpAny M A (call (.type T) vs (((backToKw pos (keywordEach kws env)).filterMap (·.1)).zip kvs)) Q E s₂) E s₁) E s)
    (he : backTo pos (starEach (e :: rest) env) = (false, eval e env) :: backTo pos (starEach rest env) := by rfl)
    (hplain : (backTo pos (starEach (e :: rest) env)).any (·.1) = false := by rfl)
    (hall : (backToKw pos (keywordEach kws env)).all (·.1.isSome) = true := by rfl)
    (hkw : (backToKw pos (keywordEach kws env)).any (·.1.isNone) = false := by rfl) :
    wpAny M A (callWith pos (.type T) [] (backTo pos (starEach (e :: rest) env)) (backToKw pos (keywordEach kws env))) Q E s := by
  have h2 : wpAny M A (evalArgs (.type T) true (backTo pos (starEach (e :: rest) env)) (backToKw pos (keywordEach kws env))) (fun a s₁ => wpAny M A (call (.type T) ([] ++ a.pos) a.kw) Q E s₁) E s := by
    rw [he] at h ⊢
    exact evalArgs_kwB hall h
  unfold callWith
  refine wpAny_bind (wpAny_holding (wpAny_mono h2 (fun a s₁ h₁ => wpAny_bind (wpAny_standAt ?_)) fun _ _ x => x))
  simp only [hplain, hkw, Bool.or_false]
  refine wpAny_bind (wpAny_pure ?_)
  exact wpAny_bind (wpAny_mono h₁ (fun r s₂ hr => wpAny_bind (wpAny_holding (wpAny_point (wpAny_pure hr)))) fun _ _ x => x)
/-- the list, the tuple, at a, each item in a new pair, counted from k -/
def IteS (K : PySem.W.Frag) (a : Addr) (k : Int) : It :=
  ⟨fun i H => ∃ (xs : List V) (x : V), SqL K H a xs ∧ xs[i]? = some x, fun i H v H' => ∃ T x, v = .ref T ∧ H T = none ∧ H' = upd H T (.tup [.int (k + (i : Nat)), x]) ∧ ∀ xs, SqL K H a xs → xs[i]? = some x, fun i H => ∃ xs : List V, SqL K H a xs ∧ xs.length = i⟩
def IteT (K : PySem.W.Frag) (a : Addr) (k : Int) : It :=
  ⟨fun i H => ∃ (xs : List V) (x : V), SqT K H a xs ∧ xs[i]? = some x, fun i H v H' => ∃ T x, v = .ref T ∧ H T = none ∧ H' = upd H T (.tup [.int (k + (i : Nat)), x]) ∧ ∀ xs, SqT K H a xs → xs[i]? = some x, fun i H => ∃ xs : List V, SqT K H a xs ∧ xs.length = i⟩
theorem walk_enumS {K : PySem.W.Frag} {a : Addr} {k : Int} {xs : List V} : Walk (IteS K a k) xs.length (fun H => SqL K H a xs) (YPair (fun i => some (.int (k + (i : Nat)))) (fun i => xs[i]?)) := by
  refine ⟨fun i _ hi q => ⟨xs, xs[i], q, by simp [hi]⟩, fun _ q => ⟨xs, q, rfl⟩, fun i H v H' _ q y => ?_⟩
  obtain ⟨T, x, h1, h2, h3, h4⟩ := y
  exact ⟨T, _, x, h1, h2, h3, rfl, h4 xs q⟩
theorem walk_enumT {K : PySem.W.Frag} {a : Addr} {k : Int} {xs : List V} : Walk (IteT K a k) xs.length (fun H => SqT K H a xs) (YPair (fun i => some (.int (k + (i : Nat)))) (fun i => xs[i]?)) := by
  refine ⟨fun i _ hi q => ⟨xs, xs[i], q, by simp [hi]⟩, fun _ q => ⟨xs, q, rfl⟩, fun i H v H' _ q y => ?_⟩
  obtain ⟨T, x, h1, h2, h3, h4⟩ := y
  exact ⟨T, _, x, h1, h2, h3, rfl, h4 xs q⟩
section
variable {P : Program} {w : World} {K : PySem.W.Frag} {elts : List Expr} {kk : Nat} {tpos : Pos}
theorem turn_enumS (a e it : Addr) (k : Int) :
    Turn P w K (.Tuple elts kk tpos) (IteS K a k) [e, it] e (fun i h => (∃ old, IsEnum h e it (k + ((i : Nat) : Int)) old) ∧ h.IsListIter it a i ∧ e ≠ it ∧ a ≠ it ∧ a ≠ e) where
  mem := by simp
  obj := fun i h st b hb => by
    obtain ⟨⟨old, he⟩, ⟨o, ho, hc, hd⟩, _⟩ := st
    have e' : b = e ∨ b = it := by simpa using hb
    rcases e' with z | z
    · rw [z]; exact ⟨_, he, fun v q => nomatch q⟩
    · rw [z]; exact ⟨o, ho, fun v q => by rw [hd] at q; cases q⟩
  keep := fun i h h' st k => let ⟨⟨old, he⟩, hi, hne⟩ := st; ⟨⟨old, k e (by simp) _ he⟩, hi.at fun o q => k it (by simp) o q, hne⟩
  item := by
    intro X hP hw hK hc i pins s σ H E I hf st hg
    subst hP hw hK
    obtain ⟨⟨old, he⟩, hit, hne, hai, hae⟩ := st
    obtain ⟨xs, x, hq, hx⟩ := hg
    obtain ⟨its, rv, p, hz⟩ := I.list hq
    obtain ⟨u, hu, ru⟩ := rv.get hx
    have hel : e < s.heap.objs.size := Heap.lt_size he
    have hil : it < s.heap.objs.size := by obtain ⟨_, q, _⟩ := hit; exact Heap.lt_size q
    have hlt : i < its.toArray.size := by simpa using (List.getElem?_eq_some_iff.mp hu).1
    refine wpAny_pyNext_enum_itemC (Draws.list (show X.A.in1.handled = none from I.ok.hd hc) it a hai its.toArray) he ⟨hit, p.isList⟩ hlt hne (by simp [hne, Ne.symm hae]) fun x' h' tk hP' ho hit' hT hsz hk => ?_
    obtain rfl : x' = u := by
      have h1 : its.toArray[i]? = some x' := hP'
      have h2 : its.toArray[i]? = some u := by simpa using hu
      rw [h1] at h2
      exact Option.some.inj h2
    refine ⟨_, rfl, wpAny_letOwnedTupleGo_enum (s := { s with heap := h', toks := tk + 1 }) ho fun h'' he' sb => ?_⟩
    have hT2 : h''.get? s.heap.objs.size = some { cls := .type "tuple", data := .seq #[.int (k + ((i : Nat) : Int)) tk, x'] } := (sb.2 _ (Nat.ne_of_gt hel)).trans hT
    have new : ObjOk X.prog X.w (upd H s.heap.objs.size (.tup [.int (k + (i : Nat)), x])) h'' s.heap.objs.size (.tup [.int (k + (i : Nat)), x]) :=
      ⟨by show 2 ≤ sizeLine; decide, [.int (k + ((i : Nat) : Int)) tk, x'], .cons ⟨_, rfl⟩ (.cons ru .nil), ⟨_, hT2, rfl, _, rfl⟩⟩
    have I1 : Inv X pins σ (upd H s.heap.objs.size (.tup [.int (k + (i : Nat)), x])) { s with heap := h'', toks := tk + 1 } :=
      I.turnedNew (ch := [e, it]) (fun b ob hb q => (sb.2 b (fun z => hb (by simp [z]))).trans (hk b ob (fun z => hb (by simp [z])) (fun z => hb (by simp [z])) q)) hf (Nat.le_refl _) new
    refine ⟨.ref s.heap.objs.size, _, I1, rfl, ⟨_, x, rfl, I.hok.fresh (Nat.le_refl _), rfl, fun ys hy => by rw [I.list_inj hy hq]; exact hx⟩, ⟨⟨x', ?_⟩, hit'.1.at fun o q => (sb.2 it (Ne.symm hne)).trans q, hne, hai, hae⟩, fun b hb => ?_⟩
    · have e1 : k + ((i + 1 : Nat) : Int) = k + (i : Int) + 1 := by omega
      rw [e1]; exact he'
    · have hb' : b < s.heap.objs.size := by
        have e' : b = e ∨ b = it := by simpa using hb
        rcases e' with z | z
        · rw [z]; exact hel
        · rw [z]; exact hil
      rw [upd_ne (Nat.ne_of_lt hb')]
      exact (hf b hb).1
  done := by
    intro X hP hw hK hc i pins s σ H E I hf st hg
    subst hP hw hK
    obtain ⟨⟨old, he⟩, hit, hne, hai, hae⟩ := st
    obtain ⟨xs, hq, hx⟩ := hg
    obtain ⟨its, rv, p, hz⟩ := I.list hq
    obtain ⟨f0, f1, f2, f3, f4, f5⟩ := hf it (by simp)
    have hl := rv.length
    have hn : i = its.toArray.size := by simp; omega
    subst hn
    exact wpAny_pyNext_enum_endD (Draws.list (show X.A.in1.handled = none from I.ok.hd hc) it a hai its.toArray) he ⟨hit, p.isList⟩ fun h' eb => ⟨rfl, I.turned (t' := s.toks) (fun b o hb q => eb b o hb q) f0 f1 f3 f4 f5⟩
  self := fun A i s Q E st h => let ⟨⟨_, he⟩, _⟩ := st; wpAny_pyIter_enum he h
theorem turn_enumT (a e it : Addr) (k : Int) :
    Turn P w K (.Tuple elts kk tpos) (IteT K a k) [e, it] e (fun i h => (∃ old, IsEnum h e it (k + ((i : Nat) : Int)) old) ∧ h.IsTupleIter it a i ∧ e ≠ it ∧ a ≠ it ∧ a ≠ e) where
  mem := by simp
  obj := fun i h st b hb => by
    obtain ⟨⟨old, he⟩, ⟨o, ho, hc, hd⟩, _⟩ := st
    have e' : b = e ∨ b = it := by simpa using hb
    rcases e' with z | z
    · rw [z]; exact ⟨_, he, fun v q => nomatch q⟩
    · rw [z]; exact ⟨o, ho, fun v q => by rw [hd] at q; cases q⟩
  keep := fun i h h' st k => let ⟨⟨old, he⟩, hi, hne⟩ := st; ⟨⟨old, k e (by simp) _ he⟩, hi.at fun o q => k it (by simp) o q, hne⟩
  item := by
    intro X hP hw hK hc i pins s σ H E I hf st hg
    subst hP hw hK
    obtain ⟨⟨old, he⟩, hit, hne, hai, hae⟩ := st
    obtain ⟨xs, x, hq, hx⟩ := hg
    obtain ⟨its, rv, p, hz⟩ := I.tuple hq
    obtain ⟨u, hu, ru⟩ := rv.get hx
    have hel : e < s.heap.objs.size := Heap.lt_size he
    have hil : it < s.heap.objs.size := by obtain ⟨_, q, _⟩ := hit; exact Heap.lt_size q
    have hlt : i < its.toArray.size := by simpa using (List.getElem?_eq_some_iff.mp hu).1
    refine wpAny_pyNext_enum_itemC (Draws.tuple (show X.A.in1.handled = none from I.ok.hd hc) it a hai its.toArray) he ⟨hit, p⟩ hlt hne (by simp [hne, Ne.symm hae]) fun x' h' tk hP' ho hit' hT hsz hk => ?_
    obtain rfl : x' = u := by
      have h1 : its.toArray[i]? = some x' := hP'
      have h2 : its.toArray[i]? = some u := by simpa using hu
      rw [h1] at h2
      exact Option.some.inj h2
    refine ⟨_, rfl, wpAny_letOwnedTupleGo_enum (s := { s with heap := h', toks := tk + 1 }) ho fun h'' he' sb => ?_⟩
    have hT2 : h''.get? s.heap.objs.size = some { cls := .type "tuple", data := .seq #[.int (k + ((i : Nat) : Int)) tk, x'] } := (sb.2 _ (Nat.ne_of_gt hel)).trans hT
    have new : ObjOk X.prog X.w (upd H s.heap.objs.size (.tup [.int (k + (i : Nat)), x])) h'' s.heap.objs.size (.tup [.int (k + (i : Nat)), x]) :=
      ⟨by show 2 ≤ sizeLine; decide, [.int (k + ((i : Nat) : Int)) tk, x'], .cons ⟨_, rfl⟩ (.cons ru .nil), ⟨_, hT2, rfl, _, rfl⟩⟩
    have I1 : Inv X pins σ (upd H s.heap.objs.size (.tup [.int (k + (i : Nat)), x])) { s with heap := h'', toks := tk + 1 } :=
      I.turnedNew (ch := [e, it]) (fun b ob hb q => (sb.2 b (fun z => hb (by simp [z]))).trans (hk b ob (fun z => hb (by simp [z])) (fun z => hb (by simp [z])) q)) hf (Nat.le_refl _) new
    refine ⟨.ref s.heap.objs.size, _, I1, rfl, ⟨_, x, rfl, I.hok.fresh (Nat.le_refl _), rfl, fun ys hy => by rw [I.tuple_inj hy hq]; exact hx⟩, ⟨⟨x', ?_⟩, hit'.1.at fun o q => (sb.2 it (Ne.symm hne)).trans q, hne, hai, hae⟩, fun b hb => ?_⟩
    · have e1 : k + ((i + 1 : Nat) : Int) = k + (i : Int) + 1 := by omega
      rw [e1]; exact he'
    · have hb' : b < s.heap.objs.size := by
        have e' : b = e ∨ b = it := by simpa using hb
        rcases e' with z | z
        · rw [z]; exact hel
        · rw [z]; exact hil
      rw [upd_ne (Nat.ne_of_lt hb')]
      exact (hf b hb).1
  done := by
    intro X hP hw hK hc i pins s σ H E I hf st hg
    subst hP hw hK
    obtain ⟨⟨old, he⟩, hit, hne, hai, hae⟩ := st
    obtain ⟨xs, hq, hx⟩ := hg
    obtain ⟨its, rv, p, hz⟩ := I.tuple hq
    obtain ⟨f0, f1, f2, f3, f4, f5⟩ := hf it (by simp)
    have hl := rv.length
    have hn : i = its.toArray.size := by simp; omega
    subst hn
    exact wpAny_pyNext_enum_endD (Draws.tuple (show X.A.in1.handled = none from I.ok.hd hc) it a hai its.toArray) he ⟨hit, p⟩ fun h' eb => ⟨rfl, I.turned (t' := s.toks) (fun b o hb q => eb b o hb q) f0 f1 f3 f4 f5⟩
  self := fun A i s Q E st h => let ⟨⟨_, he⟩, _⟩ := st; wpAny_pyIter_enum he h
def iEnumS (K : PySem.W.Frag) (ta tk : TA) : TI := fun σ H R => ta σ H fun vs H1 => tk σ H1 fun zs H2 => ∃ a xs k, vs = [.ref a] ∧ zs = [.int k] ∧ -(2 ^ 62) ≤ k ∧ k < 2 ^ 62 ∧ ((SqL K H2 a xs ∧ R (IteS K a k) H2) ∨ (SqT K H2 a xs ∧ R (IteT K a k) H2))
theorem pi_enumS {X : Cx} {e : Expr} {ta tk : TA} {kws : List Keyword} {p pos tpos : Pos} {elts : List Expr} {kk : Nat} (hg : Gl X "enumerate") (hm : X.mg "enumerate" = none) (ha : PA X [e] ta) (hkw : PK X kws tk)
    (he : backTo pos (starEach (e :: []) X.env) = (false, eval e X.env) :: backTo pos (starEach [] X.env) := by rfl) (hpl : (backTo pos (starEach (e :: []) X.env)).any (·.1) = false := by rfl)
    (hall : (backToKw pos (keywordEach kws X.env)).all (·.1.isSome) = true := by rfl) (hnone : (backToKw pos (keywordEach kws X.env)).any (·.1.isNone) = false := by rfl) (hks : (backToKw pos (keywordEach kws X.env)).filterMap (·.1) = [Str.ofString "start"] := by rfl) :
    PI X (.Tuple elts kk tpos) (.Call (.Name "enumerate" p) [e] kws pos) (iEnumS X.K ta tk) := by
  refine ⟨fun pins s σ H R I h => ?_⟩
  refine wpAny_Call_Name_kw (ld_blt I hg hm boot_enumerate ?_)
  refine callWith_typeK (thn (ha.run pos pins s σ H _ I h) fun us s1 ⟨vs, H1, I1, r1, q1⟩ => thn (hkw.run pos pins s1 σ H1 _ I1 q1) fun ws s2 ⟨zs, H2, I2, r2, q2⟩ => ?_) he hpl hall hnone
  rw [hks]
  obtain ⟨a, xs, k, ex, ez, k0, k1, hq⟩ := q2
  subst ex ez
  have wk : -(2 ^ 63) ≤ k ∧ k < 2 ^ 63 := by omega
  cases r2 with
  | cons rz rr2 =>
  cases rr2
  obtain ⟨t, rfl⟩ := rz
  cases r1 with
  | cons r rr =>
    cases rr
    cases r
    have hle : ∀ b, b = s2.heap.objs.size + 1 ∨ b = s2.heap.objs.size → s2.heap.objs.size ≤ b := fun b e => by
      rcases e with z | z
      · rw [z]; exact Nat.le_add_right _ _
      · rw [z]; exact Nat.le_refl _
    rcases hq with ⟨hq, q⟩ | ⟨hq, q⟩
    · obtain ⟨its, rv, p', hz⟩ := I2.list hq
      have la : a < s2.heap.objs.size := p'.lt
      refine enum_begins_start (begins_list a its.toArray) p'.isList wk.1 wk.2 fun h' he hit hsz hk => wpAny_pyIter_enum he ?_
      have I3 : L2.Inv X pins σ H2 { s2 with heap := h' } := I2.kept (t' := s2.toks) hk
      refine ⟨s2.heap.objs.size + 1, [s2.heap.objs.size + 1, s2.heap.objs.size], _, _, H2, rfl, I3, turn_enumS a (s2.heap.objs.size + 1) s2.heap.objs.size k, ⟨⟨.none, by simpa using he⟩, ⟨_, hit, rfl, rfl⟩, Nat.succ_ne_self _, Nat.ne_of_lt la, fun z => by rw [z] at la; exact absurd la (Nat.not_lt.mpr (Nat.le_succ _))⟩, fun b hb => ?_, q⟩
      have := hle b (by simpa using hb)
      exact I2.fpOk this (I2.hok.fresh this)
    · obtain ⟨its, rv, p', hz⟩ := I2.tuple hq
      have la : a < s2.heap.objs.size := by obtain ⟨o, e, _⟩ := p'; exact Heap.lt_size e
      refine enum_begins_start (begins_tuple a its.toArray) p' wk.1 wk.2 fun h' he hit hsz hk => wpAny_pyIter_enum he ?_
      have I3 : L2.Inv X pins σ H2 { s2 with heap := h' } := I2.kept (t' := s2.toks) hk
      refine ⟨s2.heap.objs.size + 1, [s2.heap.objs.size + 1, s2.heap.objs.size], _, _, H2, rfl, I3, turn_enumT a (s2.heap.objs.size + 1) s2.heap.objs.size k, ⟨⟨.none, by simpa using he⟩, ⟨_, hit, rfl, rfl⟩, Nat.succ_ne_self _, Nat.ne_of_lt la, fun z => by rw [z] at la; exact absurd la (Nat.not_lt.mpr (Nat.le_succ _))⟩, fun b hb => ?_, q⟩
      have := hle b (by simpa using hb)
      exact I2.fpOk this (I2.hok.fresh this)
end
section
variable {K : PySem.W.Frag} {H1 : Hp} {L : List (Addr × Ob)} {P : List Pf}
variable {g : TG} {te : TE} {tt : TT} {wv : List Nat} {σ : L2.St} {D : Addr} {Qd : Hp → Prop}
/-- sifted: of those of zs that t takes, data -/
theorem lc_siftD {α : Type} {J : It} {G : Hp → Prop} {Y : Nat → Hp → V → Hp → Prop} (zs : List α) (dat : α → PyData) (t : α → Bool) (w : Walk J zs.length G Y) (h : Own K H1 L P) (hD : H1 D = none) (hz : zs.length ≤ 10000)
    (ha : ∀ (H : Hp) (L' : List (Addr × Ob)) (P' : List Pf), (∀ p ∈ L, p ∈ L') → Ps P P' → Own K H L' P' → G H)
    (hs : ∀ (i : Nat) (z : α) (x : V) (H H' : Hp) (P' : List Pf) (ds : List PyData) (Qn : Hp → Prop) (Qy : VK), zs[i]? = some z → Y i H x H' → Ps P P' → Own K H ((D, .L ds) :: L) P' →
      (t z = false → ∀ (H'' : Hp) (P'' : List Pf), Ps P' P'' → Own K H'' ((D, .L ds) :: L) P'' → Qn H'') →
      (t z = true → ∀ (y : V) (H'' : Hp) (P'' : List Pf), Ps P' P'' → Own K H'' ((D, .L ds) :: L) P'' → Dv1 K P'' y (dat z) → Qy y H'') → g x (wipe σ wv) H' fun σ2 H2 => wipe σ2 wv = wipe σ wv ∧ tt σ2 H2 fun b H3 => if b = true then te σ2 H3 Qy else Qn H3)
    (hd : ∀ (H' : Hp) (P' : List Pf), Ps P P' → Own K H' ((D, .L ((zs.filter t).map dat)) :: L) P' → Qd H') :
    ∃ W : Nat → Nat → Hp → Prop, (∃ m, W 0 m (upd H1 D (.lst []))) ∧ ∀ i m H, W i m H →
      (J.stop i H ∧ Qd H) ∨ (J.go i H ∧ ∃ Nx : Hp → Prop, (∀ H', Nx H' → ∃ m', m' < m ∧ W (i + 1) m' H') ∧ ∀ x H', J.yld i H x H' → g x (wipe σ wv) H' fun σ2 H2 => wipe σ2 wv = wipe σ wv ∧ tt σ2 H2 fun b H3 =>
        if b = true then te σ2 H3 fun y H4 => ∃ acc, H4 D = some (.lst acc) ∧ acc.length < sizeLine ∧ Nx (upd H4 D (.lst (acc ++ [y]))) else Nx H3) := by
  refine lc_it w (fun i H => ∃ P', Ps P P' ∧ Own K H ((D, .L (((zs.take i).filter t).map dat)) :: L) P') ⟨P, Ps.refl, ?_⟩ (fun i H _ ⟨P', s, q⟩ => ha H _ P' (fun p m => List.mem_cons_of_mem _ m) s q) (fun i x H H' hi ⟨P', s, q⟩ y => ?_) (fun H ⟨P', s, q⟩ => hd H P' s (by rw [List.take_of_length_le (Nat.le_refl _)] at q; exact q))
  · have h2 := h.new hD (o := .lst []) rfl
    exact h2.closeL (vs := []) List.mem_cons_self (by rw [List.take_zero]; exact Dv.nil) .head
  · have et : zs.take (i + 1) = zs.take i ++ [zs[i]] := by rw [List.take_add_one, List.getElem?_eq_getElem hi]; rfl
    refine hs i zs[i] x H H' P' _ _ _ (List.getElem?_eq_getElem hi) y s q (fun tn H'' P'' s' q' => ⟨P'', fun r m => s' r (s r m), ?_⟩) (fun ty y H'' P'' s' q' dv => ?_)
    · rw [et, List.filter_append, List.filter_cons, tn]; simpa using q'
    · obtain ⟨vs, ev, dvs⟩ := q'.lst List.mem_cons_self
      have len := dvs.len
      have hlen : vs.length ≤ 10000 := by
        rw [len, List.length_map]
        exact Nat.le_trans (List.length_filter_le _ _) (by rw [List.length_take]; omega)
      refine ⟨vs, ev, size_lt hlen, P'', fun r m => s' r (s r m), ?_⟩
      have e2 : ((zs.take (i + 1)).filter t).map dat = ((zs.take i).filter t).map dat ++ [dat zs[i]] := by rw [et, List.filter_append, List.filter_cons, ty]; simp
      rw [e2]
      exact own_app (i := i) q' ev dv
end
end Hx

set_option Elab.async false
set_option linter.all false
set_option maxRecDepth 100000
set_option maxHeartbeats 4000000
/-! != by an own __eq__: object.__ne__ asks it and turns its answer -/
namespace Hx
open PySem PySem.Spec PyProof.Rows L2 PySem.W
section
variable {prog : Program} {w : World} {A : Around} {E : Value → Shared → Prop} {s : Shared} {K : Frag} {x C L f : Addr} {h₀ : Heap} {m : Str → Option Value} {ox : Obj} {od : Option Obj} {name : Str} {b tb : Value}
theorem one_bind (self : Value) : bindSpecial (.builtin "object.__ne__") self = pure (.builtin "object.__ne__", [self]) :=
  (Slot.of (T := "object") (name := "__ne__") (owner := "object") (n := "__ne__") (by rw [typeLookup_type, builtinLookup_eq_fast]; kernel_rfl) (by decide +kernel) (by decide +kernel) (by decide +kernel)
    (.inl (by decide +kernel)) (by rw [isSubtype_type]; kernel_rfl)).bind self
theorem ifBound_B {M : Model} {id : String} {args : List Value} {Q : Option Value → Shared → Prop} (X : K.In s.heap) (I : InstAt s.heap x ox C od) (hs : findIn K (.ref C) name = some (some (.builtin id))) (hb : ∀ self, bindSpecial (.builtin id) self = pure (.builtin id, [self]))
    (h : wpAny M A (call (.builtin id) (.ref x :: args)) (fun v => Q (some v)) E s) : wpAny M A (callSpecialIfBound? (.ref x) name args) Q E s := by
  simp only [callSpecialIfBound?, bindSpecialIfBound?]
  refine wpAny_holding (wpAny_bind (wpAny_bind (wpAny_bind (I.type.here ((looks_findIn X hs).here ?_)))))
  refine wpAny_bind (wpAny_askSetting (wpAny_ite ?_))
  have fin : wpAny M A (call (.builtin id) ([.ref x] ++ args) >>= fun v => pure (some v)) Q E s := wpAny_bind (wpAny_mono h (fun v s' h' => wpAny_pure h') fun _ _ h' => h')
  split
  · rw [hb]; exact wpAny_bind (wpAny_pure (wpAny_pure fin))
  · rw [hb]; exact wpAny_tryCatch (wpAny_bind (wpAny_pure (wpAny_pure fin)))
theorem check_ne (X : K.In s.heap) (I : InstAt s.heap x ox C od) (ho : subIn K (.ref C) (.type "object") = some true) {Q : Unit → Shared → Prop} (hq : Q () s) :
    wpAny (model prog w) A (checkBuiltinCall "object.__ne__" ⟨[.ref x, b], []⟩) Q E s := by
  have ha := PySem.F.cmpArgs_ne (.ref x) b
  simp only [checkBuiltinCall, PySem.F.cmpKind_ne, PySem.F.cmpSplit_ne]
  refine wpAny_bind ?_
  unfold isInstance
  refine wpAny_bind (I.type.here ((looks_subIn X ho).here ?_))
  simp only [Bool.not_true, Bool.false_eq_true, if_false]
  cases hsig : Manifest.signature? "object.__ne__" with
  | none => exact wpAny_pure hq
  | some sig =>
    simp only [argsOk, hsig] at ha
    have h2 : Bind.checkArgs "object.__ne__" sig ⟨[.ref x, b], []⟩ = pure () := ha
    show wpAny _ _ (Bind.checkArgs "object.__ne__" sig ⟨[.ref x, b], []⟩) Q E _
    rw [h2]; exact wpAny_pure hq
theorem ne_K {Q : Value → Shared → Prop} (hu : A.units + 1 < cLine) (F : Fr h₀ L s.heap m) (X₀ : K.In h₀) (I : InstAt s.heap x ox C od) (hb : Looks (model prog w) s.heap (typeOf b) tb) (hn : notFirst K C tb = true)
    (hs : findIn K (.ref C) "__eq__" = some (some (.ref f))) (hf : isFn K (.ref f) = true) (hne : findIn K (.ref C) "__ne__" = some (some (.builtin "object.__ne__"))) (ho : subIn K (.ref C) (.type "object") = some true)
    (h : wpAny (model prog w) A.in1 (call (.ref f) [.ref x, b]) (fun v s' => ∃ c : Bool, v = .bool c ∧ Q (.bool (!c)) s') E s) : wpAny (model prog w) A (richCompare .NotEq (.ref x) b) Q E s := by
  have X := X₀.keeps F.keep
  have one : wpAny (model prog w) A (tryCompare (.ref x) "__ne__" b) (fun r s' => ∃ v, r = some v ∧ Q v s') E s := by
    unfold tryCompare
    refine wpAny_bind (ifBound_B X I hne one_bind ?_)
    refine wpAny_call (codeAny_call_builtin (by decide +kernel) PySem.F.cmpEntry_ne (check_ne X I ho ?_))
    unfold Builtin.«object.__ne__»
    refine wpAny_bind (wpAny_of_eq (a := ((Value.ref x : Value), [b])) (by first | rfl | (simp only [slotArgs]; rfl)) ?_)
    refine wpAny_bind (wpAny_cRoomFor hu ?_)
    refine wpAny_bind (ifBound_K X I hs hf (wpAny_mono h (fun v s' hv => ?_) fun _ _ e => e))
    obtain ⟨c, rfl, hq⟩ := hv
    exact wpAny_bind (wpAny_pure (wpAny_pure (wpAny_pure ⟨_, rfl, hq⟩)))
  unfold richCompare
  simp only [oneThing_ref]
  refine wpAny_holding (wpAny_bind (wpAny_cRoomFor (by omega) ?_))
  refine wpAny_bind (I.type.here (wpAny_bind (hb.here ?_)))
  split
  · rename_i q
    have e : subIn K tb (.ref C) = some false := by
      rcases Bool.or_eq_true_iff.mp hn with e | e
      · rw [beq_iff_eq.mp e] at q; simp at q
      · exact beq_iff_eq.mp e
    refine wpAny_bind ((looks_subIn X e).here ?_)
    simp only [Bool.false_eq_true, if_false]
    refine wpAny_bind (wpAny_mono one (fun r s' z => ?_) fun _ _ e => e)
    obtain ⟨v, rfl, hq⟩ := z
    exact wpAny_pure hq
  · refine wpAny_bind (wpAny_pure ?_)
    simp only [Bool.false_eq_true, if_false]
    refine wpAny_bind (wpAny_mono one (fun r s' z => ?_) fun _ _ e => e)
    obtain ⟨v, rfl, hq⟩ := z
    exact wpAny_pure hq
end
/-- the walker stops at the operator -/
theorem op_stop {X : Cx} {f : Value → Value → Sem Value} {r : R2} (h : OpR X f r) : OpR X f (fun x y H Q => Stop (r x y H Q)) := fun pins s σ H x y v u Q I rx ry q => h pins s σ H x y v u Q I rx ry q.h
/-- what a look-up with something else hands back, by a fact of the context -/
structure EqV (a b : V) : Prop where
  h : a = b
def tDGet2E (td ty tx : TE) : TE := fun σ H Q => td σ H fun x H1 => ∃ a, x = .ref a ∧ IsD H1 a ∧ ty σ H1 fun y H2 => tx σ H2 fun z H3 => ∃ (o : Option V) (w : V), DGet H3 a y o ∧ EqV (o.getD z) w ∧ Q w H3
theorem pe_dget2E {X : Cx} {o e f : Expr} {td ty tx : TE} {apos cpos : Pos} (hu : X.A.units + 1 < cLine) (ho : PE X o td) (he : PE X e ty) (hf : PE X f tx) (m : M2 X o "get" apos e f cpos) : PE X (.Call (.Attribute o "get" apos) [e, f] [] cpos) (tDGet2E td ty tx) := by
  refine ⟨fun pins s σ H Q I h => ?_⟩
  refine wpAny_Call_method m.base m.few m.line PySem.F.plainAttrs_dict PySem.F.slot_dict_get PySem.F.type_dict_get (thn (ho.run pins s σ H _ I h) fun u s1 ⟨x, H1, I1, rx, a, ex, d, q1⟩ => ?_)
  subst ex
  obtain rfl : u = Value.ref a := rx
  obtain ⟨t1, t2, _⟩ := isD_at I1 d
  refine ⟨t1, t2, ?_⟩
  rw [m.trees]
  refine Calls.callWith_builtin rfl (Calls.evalArgs_plain (Calls.spliced_cons (thn (he.run pins s1 σ H1 _ I1 q1) fun iv s2 ⟨y, H2, I2, ry, q2⟩ =>
    Calls.spliced_cons (thn (hf.run pins s2 σ H2 _ I2 q2) fun fv s3 ⟨z, H3, I3, rz, ov, wv, g, ⟨e⟩, q3⟩ => Calls.spliced_nil ?_))))
  subst e
  exact d_get2 hu I3 g ry rz fun w' s4 I4 rw' => ⟨_, H3, I4, rw', q3⟩
section
variable {X : Cx} {n : Nat} {C f : Addr} {fd : FuncData} {ps : List Str} {sp : Sp}
/-- the call of __eq__ within object.__ne__ -/
theorem ne_call (F : FnOk X.prog X.w X.K X.mg X.base CX0 n f fd ps sp) (hr : Room (n + 1) X.A) (hb : Binds X.K fd ps []) {pins : List (Addr × Obj)} {s : Shared} {σ : L2.St} {H : Hp} (I : L2.Inv X pins σ H s) {a b : Addr} {Q : VK}
    (hsp : sp [.ref a, .ref b] H (fun v H' => ∃ c, v = .bl c ∧ Q (.bl (!c)) H') (fun _ _ _ => False)) :
    wpAny (model X.prog X.w) X.A.in1 (call (.ref f) [.ref a, .ref b]) (fun v s' => ∃ c : Bool, v = .bool c ∧ EP X pins σ Q (.bool (!c)) s') X.xe s := by
  have hl := F.len _ _ _ _ hsp
  have r2 : Vals [V.ref a, V.ref b] [Value.ref a, Value.ref b] := .cons rfl (.cons rfl .nil)
  have hB : BindsTo s fd ⟨[.ref a, .ref b], []⟩ (ps.zip [.ref a, .ref b]) := by
    have := hb s [.ref a, .ref b] I.kIn (by simpa using hl)
    simpa using this
  refine wpAny_call (codeAny_mono (F.run X.A.in1 X.stack s H ⟨[.ref a, .ref b], []⟩ [.ref a, .ref b] [.ref a, .ref b] _ _ hr.in1 I.env0.in1 hB r2 hsp) fun r s' hq => ?_)
  match r, hq with
  | .ok (.ret w), hq =>
    obtain ⟨z, H', I', rz, c, rfl, q⟩ := I.after hq
    cases rz
    exact ⟨c, rfl, .bl (!c), H', I', rfl, q⟩
  | .error e, hq => exact False.elim hq
  | .ok .next, hq => exact False.elim hq
  | .ok .brk, hq => exact False.elim hq
  | .ok .cont, hq => exact False.elim hq
/-- x != y by the class's own ==, whatever it answers -/
theorem op_neOwn (F : FnOk X.prog X.w X.K X.mg X.base CX0 n f fd ps sp) (hr : Room (n + 1) X.A)
    (hs : PySem.W.findIn X.K (.ref C) "__eq__" = some (some (.ref f))) (hf : PySem.W.isFn X.K (.ref f) = true) (hb : Binds X.K fd ps []) (hne : findIn X.K (.ref C) "__ne__" = some (some (.builtin "object.__ne__"))) (ho : subIn X.K (.ref C) (.type "object") = some true) :
    OpR X (compareOp .NotEq) (fun x y H Q => ∃ a b dx dy fs gs, x = .ref a ∧ y = .ref b ∧ H a = some (.ins C dx fs) ∧ H b = some (.ins C dy gs) ∧ sp [.ref a, .ref b] H (fun v H' => ∃ c, v = .bl c ∧ Q (.bl (!c)) H') (fun _ _ _ => False)) := by
  intro pins s σ H x y v u Q I rx ry h
  obtain ⟨a, b, dx, dy, fs, gs, rfl, rfl, ha, hb', hsp⟩ := h
  cases rx
  cases ry
  obtain ⟨mA, J, _⟩ := ins_get I.hok ha
  obtain ⟨mB, J', _⟩ := ins_get I.hok hb'
  obtain ⟨od, J, _⟩ := J.look
  obtain ⟨od', J', _⟩ := J'.look
  obtain ⟨m, hF⟩ := I.fr
  have hu := hr.un
  exact ne_K (tb := .ref C) (by omega) hF I.ok.mod.kin J J'.type (by simp [PySem.W.notFirst]) hs hf hne ho (ne_call F hr hb I hsp)
/-- the same beside a list -/
theorem op_neOwnL (F : FnOk X.prog X.w X.K X.mg X.base CX0 n f fd ps sp) (hr : Room (n + 1) X.A)
    (hs : PySem.W.findIn X.K (.ref C) "__eq__" = some (some (.ref f))) (hf : PySem.W.isFn X.K (.ref f) = true) (hb : Binds X.K fd ps []) (hsl : PySem.W.subIn X.K (.type "list") (.ref C) = some false) (hne : findIn X.K (.ref C) "__ne__" = some (some (.builtin "object.__ne__"))) (ho : subIn X.K (.ref C) (.type "object") = some true) :
    OpR X (compareOp .NotEq) (fun x y H Q => ∃ a b dx fs xs, x = .ref a ∧ y = .ref b ∧ H a = some (.ins C dx fs) ∧ H b = some (.lst xs) ∧ sp [.ref a, .ref b] H (fun v H' => ∃ c, v = .bl c ∧ Q (.bl (!c)) H') (fun _ _ _ => False)) := by
  intro pins s σ H x y v u Q I rx ry h
  obtain ⟨a, b, dx, fs, xs, rfl, rfl, ha, hb', hsp⟩ := h
  cases rx
  cases ry
  obtain ⟨mA, J, _⟩ := ins_get I.hok ha
  obtain ⟨od, J, _⟩ := J.look
  obtain ⟨_, _, nn, _, h1⟩ := (show ObjOk X.prog X.w H s.heap b (.lst xs) from I.hok b _ hb')
  obtain ⟨m, hF⟩ := I.fr
  have hu := hr.un
  exact ne_K (tb := .type "list") (by omega) hF I.ok.mod.kin J (fun A Q E s k q => wpAny_typeOf_ref (k _ _ h1) q) (by simp [PySem.W.notFirst, hsl]) hs hf hne ho (ne_call F hr hb I hsp)
end
end Hx

set_option Elab.async false
set_option linter.all false
set_option maxRecDepth 100000
set_option maxHeartbeats 1000000
/-! del xs[a:]; xs[:] = ys; xs.remove(x) of data -/
namespace Hx
open PySem PySem.Spec PyProof.Rows L2
theorem hu65 {A : Around} {k : Nat} (hr : Room k A) : A.units + 65 < cLine := by have := hr.un; omega
section
variable {prog : Program} {w : World} {A : Around} {E : Value → Shared → Prop} {s : Shared}
theorem zip_all {f : Value × Nat → Option Value} : ∀ (l : List Value) (j : Nat), (∀ k x, j ≤ k → k < j + l.length → f (x, k) = some x) → (l.zipIdx j).filterMap f = l
  | [], _, _ => rfl
  | x :: l, j, h => by
    rw [List.zipIdx_cons, List.filterMap_cons, h j x (Nat.le_refl _) (by simp)]
    show x :: _ = x :: l
    rw [zip_all l (j + 1) fun k y h1 h2 => h k y (by omega) (by simp only [List.length_cons]; omega)]
theorem zip_none {f : Value × Nat → Option Value} : ∀ (l : List Value) (j : Nat), (∀ k x, j ≤ k → k < j + l.length → f (x, k) = none) → (l.zipIdx j).filterMap f = []
  | [], _, _ => rfl
  | x :: l, j, h => by
    rw [List.zipIdx_cons, List.filterMap_cons, h j x (Nat.le_refl _) (by simp)]
    show _ = []
    exact zip_none l (j + 1) fun k y h1 h2 => h k y (by omega) (by simp only [List.length_cons]; omega)
theorem zip_cut {f : Value × Nat → Option Value} {its : List Value} {a : Nat} (h : a ≤ its.length)
    (hf : ∀ x k, f (x, k) = if (decide ((a : Int) ≤ (k : Int)) && decide ((k : Int) < (its.length : Int)) && (((k : Int) - (a : Int)) % 1 == 0)) = true then none else some x) : its.zipIdx.filterMap f = its.take a := by
  have e := List.take_append_drop a its
  conv => lhs; rw [← e, List.zipIdx_append, List.filterMap_append]
  rw [zip_all (its.take a) 0 fun k x h1 h2 => by
    rw [hf, if_neg]
    rw [List.length_take] at h2
    simp only [Bool.and_eq_true, decide_eq_true_eq, not_and]
    omega, zip_none (its.drop a) _ fun k x h1 h2 => by
    rw [hf, if_pos]
    rw [List.length_take] at h1 h2
    rw [List.length_drop] at h2
    simp only [Bool.and_eq_true, decide_eq_true_eq, beq_iff_eq]
    omega, List.append_nil]
theorem take_min {α : Type} (l : List α) (a : Nat) : l.take (min a l.length) = l.take a := by
  rcases Nat.le_total a l.length with h | h
  · rw [Nat.min_eq_left h]
  · rw [Nat.min_eq_right h, List.take_length, List.take_of_length_le h]
theorem bounds_from {a n : Nat} : sliceBounds (some (a : Int)) none none n = (((min a n : Nat) : Int), (n : Int), 1) := by
  simp only [sliceBounds, Option.getD_none]
  have h1 : ¬ ((a : Int) < 0) := by omega
  simp only [h1, if_false, show (1 : Int) > 0 by decide, if_true]
  congr 1
  omega
theorem delItem_cut {l sl : Addr} {items : List Value} {n : Nat} {vl vu : Value} {a : Nat} {Q : Unit → Shared → Prop}
    (e : s.heap.get? l = some { cls := .type "list", data := .seq items.toArray n })
    (hs : s.heap.IsSliceOf sl vl vu .none) (pl : IsPart vl (some (a : Int))) (pu : IsPart vu none)
    (hsz : items.length ≤ sizeLine) (h : ∀ f : Array Value → Array Value, f items.toArray = (items.take a).toArray → Q () { s with heap := s.heap.update l (Obj.mapSeq f) }) :
    wpAny (model prog w) A (delItem (.ref l) (.ref sl)) Q E s := by
  have hl : s.heap.IsList l items.toArray := PySem.IsL.isList e
  obtain ⟨os, hos, hcs, hds⟩ := id hs
  have hTs : s.TypeIs (.ref sl) "slice" := ⟨os, hos, hcs⟩
  have hstep : ¬ ((rawPart none == rawInt 0) = true) := Bool.false_ne_true
  refine wpAny_delItem_slot hl.typeIs (by decide) F.slot_list_delitem ?_
  refine wpAny_call_entry F.slot_list_delitem hl.typeIs F.entry_list_delitem ?_ (F.args_list_delitem_2 _ _)
  show wpAny _ _ (Builtin.List.listSubscript? (.ref sl) >>= _) _ _ s
  refine wpAny_bind ?_
  unfold Builtin.List.listSubscript?
  refine wpAny_bind (wpAny_specialOf hTs slice_no_index ?_)
  simp only [Option.isNone_none, if_true]
  refine wpAny_pure ?_
  show wpAny _ _ (typeOf (.ref sl) >>= _) _ _ s
  refine wpAny_bind (wpAny_typeOf hTs ?_)
  first
    | rw [if_neg (by decide)]
    | refine PySem.W.KFB.if_not (by decide) ?_
  rw [listSliceParts_eq]
  refine wpAny_bind (wpAny_bind (wpAny_field hos hds (x := .none) rfl (wpAny_bind (wpAny_listPart .none ?_))))
  rw [if_neg hstep]
  refine wpAny_bind (wpAny_field hos hds (x := vl) rfl (wpAny_bind (wpAny_listPart pl ?_)))
  refine wpAny_bind (wpAny_field hos hds (x := vu) rfl (wpAny_bind (wpAny_listPart pu (wpAny_pure ?_))))
  refine wpAny_bind (wpAny_bind (wpAny_seqItems e rfl (wpAny_pure ?_)))
  refine wpAny_bind (wpAny_of_eq ((sliceIndices_raw (some (a : Int)) none none items.toArray.size (by simp)).trans (congrArg (pure : Int × Int × Int → Sem (Int × Int × Int)) (bounds_from (a := a)))) ?_)
  refine wpAny_bind (wpAny_rule ?_)
  have key : ∀ (α : Type) (f : Array Value → Array Value) (m : Sem α) (R : α → Shared → Prop), f items.toArray = (items.take a).toArray → wpAny (model prog w) A.in1 m R E { s with heap := s.heap.update l (Obj.mapSeq f) } → wpAny (model prog w) A.in1 (Builtin.List.listUpdate (.ref l) f >>= fun _ => m) R E s := by
    intro α f m R hf hm
    have hz' : (f items.toArray).size ≤ sizeLine + 1 := by
      rw [hf, List.size_toArray, List.length_take]
      omega
    exact wpAny_bind (wpAny_updateSeq (hz := by rw [List.size_toArray]; exact hsz) (_hz' := hz') e rfl hm)
  have hfe := fun (f : Value × Nat → Option Value) (hf : ∀ x k, f (x, k) = if (decide (((min a items.length : Nat) : Int) ≤ (k : Int)) && decide ((k : Int) < (items.length : Int)) && (((k : Int) - ((min a items.length : Nat) : Int)) % 1 == 0)) = true then none else some x) => (congrArg List.toArray ((zip_cut (Nat.min_le_right _ _) hf).trans (take_min _ _)) : (items.zipIdx.filterMap f).toArray = (items.take a).toArray)
  refine key _ _ _ _ (hfe _ fun x k => rfl) ?_
  refine wpAny_bind (wpAny_letGo ?_)
  exact wpAny_pure ⟨.none, rfl, h _ (hfe _ fun x k => rfl)⟩
end
section
variable {X : Cx}
/-- del xs[a:] -/
def tDelF (to : TE) (tl : TO) : TS := fun D σ H => to σ H fun x H1 => tl σ H1 fun o H2 => ∃ (l : Addr) (xs : List V) (a : Nat), x = .ref l ∧ o = some (a : Int) ∧ H2 l = some (.lst xs) ∧ D.nx σ (upd H2 l (.lst (xs.take a)))
theorem ps_delF {o lo : Expr} {to : TE} {tl : TO} {tpos p2 pos : Pos} (ho : PE X o to) (hl : PO X (some lo) tl) : PS X (.Delete [.Subscript o (.Slice (some lo) none none p2) tpos] pos) (tDelF to tl) := by
  refine ⟨fun pins s σ H D I h => ?_⟩
  refine wpAny_Delete (wpAny_deleteEach_cons (wpAny_delete_Subscript (thn (ho.run pins s σ H _ I h) fun u s1 ⟨x, H1, I1, rx, q1⟩ => ?_)))
  refine wpAny_Slice (thn (hl.run pins s1 σ H1 _ I1 q1) fun vl s2 ⟨l, H2, I2, pl, q2⟩ => ?_)
  rw [evalPart_none]
  refine wpAny_pure ?_
  refine wpAny_pure ?_
  obtain ⟨b, xs, a, rfl, rfl, hH, q2⟩ := q2
  cases (show u = Value.ref b from rx)
  have I4 : Inv X pins σ H2 { s2 with heap := s2.heap.push { cls := .type "slice", data := .fields #[vl, .none, .none] } } := I2.kept (t' := s2.toks) fun b ob q => Heap.get?_push_of_some _ q
  obtain ⟨z, its, n, r, hl, e⟩ := I4.lstM hH
  refine delItem_cut (a := a) e (Heap.IsSliceOf.new ..) pl .none (by omega) fun f hf => ?_
  refine wpAny_deleteEach_nil ⟨σ, _, I4.lset (its' := its.take a) (t' := s2.toks) hH e hf (r.take _) ?_, q2⟩
  rw [List.length_take]
  omega
end
end Hx
namespace PySem
open MeetsSeq SeqAt
theorem hx_removeAt (l : Addr) (items : Array Value) (n : Nat) (x : Value) (e : Value → Bool) (j : Nat) (hj : j < items.size) (hit : e items[j] = true) (hs1 : items.size ≤ sizeLine) (k : Nat) :
    ∀ i : Nat, j - i = k → i ≤ j → (∀ m (hm : m < items.size), i ≤ m → m < j → e items[m] = false) → Meets (Builtin.«list.remove.loop» ⟨[.ref l, x, rawInt i], []⟩)
      (fun A R s => s.heap.get? l = some { cls := .type "list", dict := none, data := .seq items n, slots := #[] } ∧ (∀ y, y ∈ items → EqAt A.in1 s y x (e y)) ∧ R (.ok (.ret .none)) { s with heap := s.heap.update l (Obj.mapSeq fun xs => xs.eraseIdxIfInBounds j) }) := by
  induction k with
  | zero =>
    intro i hk hij hno prog w A R s h
    obtain ⟨hp, g, d, tk, os⟩ := s; obtain ⟨hl, he, h⟩ := h
    have hij' : i = j := by omega
    subst hij'
    wp_walk using wpAny_loadPart' hl
    have hi : items[((i : Nat) : Int).toNat]? = some items[i] := by simp [hj]
    rw [hi]
    refine wpAny_bind (he _ (Array.getElem_mem hj) prog w _ _ ?_)
    rw [hit]
    have hz' : (items.eraseIdxIfInBounds i).size ≤ sizeLine + 1 := Nat.le_trans (size_erased items _) (Nat.le_succ_of_le hs1)
    wp_walk using (wpAny_updateSeq hl rfl (hz := hs1) (_hz' := hz')), wpAny_loadPart' hl
    simpa using h
  | succ k ih =>
    intro i hk hij hno prog w A R s h
    obtain ⟨hp, g, d, tk, os⟩ := s; obtain ⟨hl, he, h⟩ := h
    have hlt : i < items.size := by omega
    wp_walk using wpAny_loadPart' hl
    have hi : items[((i : Nat) : Int).toNat]? = some items[i] := by simp [hlt]
    have hc : ((i : Int) + 1) = ((i + 1 : Nat) : Int) := by push_cast; rfl
    rw [hi]
    refine wpAny_bind (he _ (Array.getElem_mem hlt) prog w _ _ ?_)
    rw [hno i hlt (Nat.le_refl _) (by omega)]
    wp_walk
    rw [hc]
    exact ⟨plainId_quiet plain_remove_loop _, codeAny_builtin entry_remove_loop (by
      rw [Around.under_plainId plain_remove_loop _]
      exact ih (i + 1) (by omega) (by omega) (fun m hm h1 h2 => hno m hm (by omega) h2) prog w A R _ ⟨hl, he, h⟩)⟩
theorem hx_remove (l : Addr) (items : Array Value) (n : Nat) (x : Value) (e : Value → Bool) (j : Nat) (hj : j < items.size)
    (hit : e items[j] = true) (hno : ∀ m (hm : m < items.size), m < j → e items[m] = false) (hs1 : items.size ≤ sizeLine) :
    Meets (Builtin.«list.remove» ⟨[.ref l, x], []⟩)
      (fun A R s => s.heap.get? l = some { cls := .type "list", dict := none, data := .seq items n, slots := #[] } ∧ (∀ y, y ∈ items → EqAt A.in1 s y x (e y)) ∧ R (.ok (.ret .none)) { s with heap := s.heap.update l (Obj.mapSeq fun xs => xs.eraseIdxIfInBounds j) }) := by
  intro prog w A R s h
  obtain ⟨hp, g, d, tk, os⟩ := s; obtain ⟨hl, he, h⟩ := h
  wp_walk using wpAny_loadPart' hl
  exact ⟨plainId_quiet plain_remove_loop _, codeAny_builtin entry_remove_loop (by
    rw [Around.under_plainId plain_remove_loop _]
    exact hx_removeAt l items n x e j hj hit hs1 _ 0 rfl (Nat.zero_le _) (fun m hm _ h2 => hno m hm h2) prog w A R _ ⟨hl, he, h⟩)⟩
end PySem
namespace Hx
open PySem PySem.Spec PyProof.Rows L2
section
variable {X : Cx}
/-- l.remove(x): the first of the same data -/
def rRemD (K : PySem.W.Frag) : V → List V → Hp → VK → Prop := fun x xs H Q => ∃ (a : Addr) (vs : List V) (y : V) (d : PyData) (ds : List PyData) (j : Nat) (z : PyData), x = V.ref a ∧ xs = [y] ∧ H a = some (.lst vs) ∧ DpAll K H vs ds ∧ Dp K H y d ∧
  SeqAt.shaped (.list ds) = true ∧ SeqAt.shaped d = true ∧ ds[j]? = some z ∧ PyData.eqv z d = true ∧ (∀ (m : Nat) (z' : PyData), m < j → ds[m]? = some z' → PyData.eqv z' d = false) ∧ Q .non (upd H a (.lst (vs.eraseIdx j)))
theorem mt_remD (hu : X.A.units + 65 < cLine) : MtM X "list.remove" (rRemD X.K) := by
  intro pins s σ H x xs v us Q I rx rxs h
  obtain ⟨a, vs, y, d, ds, j, z, rfl, rfl, hH, hl, hy, sl, sd, hz, hzj, hno, q⟩ := h
  cases rx
  obtain ⟨uy, rfl, ry⟩ := rxs.one
  obtain ⟨bs, r1⟩ := Dp.reads I d y uy hy ry
  have hxs : PyData.canLayAll0 ds = true := SeqAt.canLay_of_shaped sl
  have hroom : X.A.units + 1 + min (PyData.depthAll ds) d.depth < cLine := room_in_shaped sd hu
  obtain ⟨hsz, its, n, rv, hlen, ho⟩ := I.lstM hH
  obtain ⟨as, h4⟩ := Dp.readsAll I ds _ its hl rv
  have hn : its.length = ds.length := SeqAt.ReadsAll.length ds its as h4
  have hmap : its.map (SeqAt.readOf s.heap) = ds := SeqAt.readsAll_map ds its as hxs h4
  obtain ⟨hjd, _⟩ := List.getElem?_eq_some_iff.mp hz
  have hjl : j < its.length := by omega
  have hj : j < its.toArray.size := by simpa using hjl
  have at_ : ∀ (m : Nat) (hm : m < its.toArray.size) (z' : PyData), ds[m]? = some z' → SeqAt.readOf s.heap its.toArray[m] = z' := by
    intro m hm z' hz'
    have hml : m < its.length := by simpa using hm
    rw [← hmap, List.getElem?_map, List.getElem?_eq_getElem hml] at hz'
    have e1 : SeqAt.readOf s.heap its[m] = z' := Option.some.inj (show some (SeqAt.readOf s.heap its[m]) = some z' from hz')
    simpa using e1
  refine call_meets PySem.F.slot_list_remove ⟨_, ho, rfl⟩ PySem.F.entry_list_remove (PySem.F.args_list_remove_2 _ _)
    (hx_remove a its.toArray n uy (fun u => PyData.eqv (SeqAt.readOf s.heap u) d) j hj ?_ ?_ (by rw [List.size_toArray]; omega)) ⟨ho, SeqAt.items_eqAt (vs := its.toArray) (show ReadsAll s.heap its.toArray.toList ds as from h4) r1 hxs (SeqAt.canLay_of_shaped sd) hroom, ?_⟩
  · show PyData.eqv (SeqAt.readOf s.heap its.toArray[j]) d = true
    rw [at_ j hj z hz]
    exact hzj
  · intro m hm hmj
    have hmd : m < ds.length := by omega
    have hz' : ds[m]? = some ds[m] := List.getElem?_eq_getElem hmd
    show PyData.eqv (SeqAt.readOf s.heap its.toArray[m]) d = false
    rw [at_ m hm _ hz']
    exact hno m _ hmj hz'
  · refine ⟨.non, _, I.lset (its' := its.eraseIdx j) hH ho ?_ (rv.eraseIdx j) ?_, rfl, q⟩
    · show its.toArray.eraseIdxIfInBounds j = (its.eraseIdx j).toArray
      rw [List.eraseIdxIfInBounds_toArray]
    · have := len_erase vs j
      omega
end
section
variable {prog : Program} {w : World} {A : Around} {E : Value → Shared → Prop} {s : Shared}
theorem bounds_all (n : Nat) : sliceBounds none none none n = ((0 : Int), (n : Int), 1) := by
  simp only [sliceBounds, Option.getD_none, show (1 : Int) > 0 by decide, if_true]
theorem setItem_all {l b sl : Addr} {its its2 : List Value} {n n2 : Nat} {vl vu : Value} {Q : Unit → Shared → Prop}
    (e : s.heap.get? l = some { cls := .type "list", data := .seq its.toArray n }) (e2 : s.heap.get? b = some { cls := .type "list", data := .seq its2.toArray n2 }) (hne : l ≠ b)
    (hs : s.heap.IsSliceOf sl vl vu .none) (pl : IsPart vl none) (pu : IsPart vu none) (hz1 : its.length ≤ sizeLine) (hsz : its.length + its2.length ≤ sizeLine)
    (h : ∀ f : Array Value → Array Value, f its.toArray = its2.toArray → Q () { s with heap := s.heap.update l (Obj.mapSeq f) }) :
    wpAny (model prog w) A (setItem (.ref l) (.ref sl) (.ref b)) Q E s := by
  have hl : s.heap.IsList l its.toArray := PySem.IsL.isList e
  have hb : s.heap.IsList b its2.toArray := PySem.IsL.isList e2
  obtain ⟨os, hos, hcs, hds⟩ := id hs
  have hTs : s.TypeIs (.ref sl) "slice" := ⟨os, hos, hcs⟩
  have hstep : ¬ ((rawPart none == rawInt 0) = true) := Bool.false_ne_true
  have hsame : Builtin.List.listSameRef (.ref l) (.ref b) = false := beq_eq_false_iff_ne.mpr hne
  unfold setItem
  refine wpAny_holding ?_
  refine wpAny_bind (wpAny_sequenceKey hl.typeIs (by decide) ?_)
  refine wpAny_bind (wpAny_callSpecial?_slot (name := Str.ofString "__setitem__") hl.typeIs F.slot_list_setitem
    (wpAny_call_entry F.slot_list_setitem hl.typeIs F.entry_list_setitem ?_ (F.args_list_setitem_3 _ _ _)))
  refine wpAny_bind (m := Builtin.List.listSubscript? (.ref sl)) ?_
  unfold Builtin.List.listSubscript?
  refine wpAny_bind (wpAny_specialOf hTs slice_no_index ?_)
  simp only [Option.isNone_none, if_true]
  refine wpAny_pure ?_
  refine wpAny_bind (m := typeOf (.ref sl)) (wpAny_typeOf hTs ?_)
  first
    | rw [if_neg (by decide)]
    | refine PySem.W.KFB.if_not (by decide) ?_
  rw [listSliceParts_eq]
  refine wpAny_bind (wpAny_bind (wpAny_field hos hds (x := .none) rfl (wpAny_bind (wpAny_listPart .none ?_))))
  rw [if_neg hstep]
  refine wpAny_bind (wpAny_field hos hds (x := vl) rfl (wpAny_bind (wpAny_listPart pl ?_)))
  refine wpAny_bind (wpAny_field hos hds (x := vu) rfl (wpAny_bind (wpAny_listPart pu (wpAny_pure ?_))))
  first
    | simp only [hsame, Bool.false_eq_true, if_false]
    | refine PySem.W.KFB.if_not hsame ?_
  refine wpAny_bind (m := Builtin.List.listAllItems (.ref b) "must assign iterable to extended slice") ?_
  unfold Builtin.List.listAllItems
  refine wpAny_bind (wpAny_typeOf hb.typeIs ?_)
  first
    | refine PySem.W.KFB.if_so (by decide) ?_
    | rw [if_pos (by decide)]
  refine wpAny_bind (wpAny_seqItems e2 rfl (wpAny_pure ?_))
  refine wpAny_bind (wpAny_bind (wpAny_seqItems e rfl (wpAny_pure ?_)))
  refine wpAny_bind (wpAny_of_eq ((sliceIndices_raw none none none its.toArray.size (by simp)).trans (congrArg (pure : Int × Int × Int → Sem (Int × Int × Int)) (bounds_all _))) ?_)
  refine PySem.W.KFB.if_so rfl ?_
  refine wpAny_bind (wpAny_rule ?_)
  refine PySem.W.KFB.if_not (notLongL (by rw [List.size_toArray, List.size_toArray]; exact hsz)) ?_
  have key : ∀ (α : Type) (f : Array Value → Array Value) (m : Sem α) (R : α → Shared → Prop), f its.toArray = its2.toArray → wpAny (model prog w) A.in1 m R E { s with heap := s.heap.update l (Obj.mapSeq f) } → wpAny (model prog w) A.in1 (Builtin.List.listUpdate (.ref l) f >>= fun _ => m) R E s := by
    intro α f m R hf hm
    have hz' : (f its.toArray).size ≤ sizeLine + 1 := by
      rw [hf, List.size_toArray]
      omega
    exact wpAny_bind (wpAny_updateSeq (hz := by rw [List.size_toArray]; exact hz1) (_hz' := hz') e rfl hm)
  have hfe : (fun xs : Array Value => xs.extract 0 (0 : Int).toNat ++ its2.toArray ++ xs.extract (max (0 : Int) (its.toArray.size : Int)).toNat xs.size) its.toArray = its2.toArray := by
    have h1 : (max (0 : Int) (its.toArray.size : Int)).toNat = its.toArray.size := by omega
    show its.toArray.extract 0 (0 : Int).toNat ++ its2.toArray ++ its.toArray.extract (max (0 : Int) (its.toArray.size : Int)).toNat its.toArray.size = _
    rw [h1]
    apply Array.toList_inj.mp
    simp
  refine key _ _ _ _ hfe ?_
  refine wpAny_bind (wpAny_letGo ?_)
  exact wpAny_pure ⟨.none, rfl, wpAny_pure (h _ hfe)⟩
end
section
variable {X : Cx}
/-- xs[:] = of another list -/
def gSlAll (to : TE) : TG := fun v σ H Q => to σ H fun x H1 => ∃ (l b : Addr) (xs ys : List V), x = .ref l ∧ v = .ref b ∧ H1 l = some (.lst xs) ∧ H1 b = some (.lst ys) ∧ l ≠ b ∧ xs.length + ys.length ≤ sizeLine ∧ Q σ (upd H1 l (.lst ys))
theorem pg_slAll {o : Expr} {to : TE} {p2 pos : Pos} (ho : PE X o to) : PG X (.Subscript o (.Slice none none none p2) pos) (gSlAll to) := by
  refine ⟨fun pins s σ H v u Q I r h => ?_⟩
  rw [arm_assign_Subscript]
  refine wpAny_bind (wpAny_holding (thn (ho.run pins s σ H _ I h) fun ov s1 ⟨x, H1, I1, r1, q1⟩ => ?_))
  refine wpAny_bind (wpAny_holding ?_)
  refine wpAny_Slice ?_
  rw [evalPart_none]
  refine wpAny_pure ?_
  refine wpAny_pure ?_
  refine wpAny_pure ?_
  obtain ⟨l, b, xs, ys, rfl, rfl, hH, hB, hne, hz, q1⟩ := q1
  cases (show ov = Value.ref l from r1)
  cases (show u = Value.ref b from r)
  have I4 : Inv X pins σ H1 { s1 with heap := s1.heap.push { cls := .type "slice", data := .fields #[.none, .none, .none] } } := I1.kept (t' := s1.toks) fun b ob q => Heap.get?_push_of_some _ q
  obtain ⟨z, its, n, rv, hl, e⟩ := I4.lstM hH
  obtain ⟨z2, its2, n2, rv2, hl2, e2⟩ := I4.lstM hB
  refine wpAny_bind (wpAny_standAt (wpAny_bind (wpAny_holding (setItem_all e e2 hne (Heap.IsSliceOf.new ..) .none .none (by omega) (by omega) fun f hf => ?_))))
  refine wpAny_release ⟨σ, _, I4.lset (its' := its2) (t' := s1.toks) hH e hf rv2 ?_, q1⟩
  exact z2
/-- the same, where a walker stops -/
theorem mt_remS (hu : X.A.units + 65 < cLine) : MtM X "list.remove" (fun x xs H Q => Stop (rRemD X.K x xs H Q)) := fun pins s σ H x xs v us Q I rx rxs h => mt_remD hu pins s σ H x xs v us Q I rx rxs h.h
end
end Hx

set_option Elab.async false
set_option linter.all false
set_option maxRecDepth 100000
set_option maxHeartbeats 4000000
/-! list(enumerate(xs, start=k)) over a list: a new list of new pairs -/
namespace Hx
open PySem PySem.Spec PyProof.Rows L2
theorem enum_no_len : typeLookup (.type "enumerate") "__len__" = pure none := by rw [typeLookup_type, builtinLookup_eq_fast]; kernel_rfl
theorem enum_no_hint : typeLookup (.type "enumerate") "__length_hint__" = pure none := by rw [typeLookup_type, builtinLookup_eq_fast]; kernel_rfl
section
variable {prog : Program} {w : World} {A : Around} {E : Value → Shared → Prop} {σs : Shared}
/-- the next pair of an enumerate whose last one is still held by somebody, from any number on -/
theorem held_body {en li l T : Addr} {i : Nat} {c : Int} {ys : Array Value} {y o5 : Value} {fl : Bool} {oT : Obj} {R : Value → Shared → Prop}
    (H0 : IsEnumHeld σs.heap en li c o5 T fl) (hT : σs.heap.get? T = some oT) (nTe : T ≠ en) (nTi : T ≠ li) (hL : σs.heap.IsListIter li l i) (hl : σs.heap.IsList l ys) (hy : ys[i]? = some y) (nei : en ≠ li)
    (fin : ∀ hp', IsEnumHeld hp' en li (c + 1) o5 T true → hp'.IsListIter li l (i + 1) → hp'.get? σs.heap.objs.size = some { cls := .type "tuple", data := .seq #[.int c σs.toks, y] } →
      (∀ b u, b ≠ en → b ≠ li → σs.heap.get? b = some u → hp'.get? b = some u) → R (.ref σs.heap.objs.size) { σs with heap := hp', toks := σs.toks + 1 }) :
    wpAny (model prog w) A (Builtin.«enumerate.__next__» ⟨[.ref en], []⟩) (fun r s' => ∃ v, r = .done (.ret v) ∧ R v s') E σs := by
  rcases σs with ⟨hp, gs, dr, n, os⟩
  have len : en < hp.objs.size := Heap.lt_size H0
  show wpAny _ _ (field (.ref en) 2 >>= _) _ _ _
  refine wpAny_bind (wpAny_field H0 rfl (x := .ref li) rfl (wpAny_bind (wpAny_nextOf_list_item hL hl hy fun g1 L1 B1 => ?_)))
  have H1 : IsEnumHeld g1 en li c o5 T fl := ((show Heap.SameBut li hp g1 from B1).2 en nei).trans H0
  show wpAny _ _ (field (.ref en) 3 >>= _) _ _ ⟨g1, gs, dr, n, os⟩
  refine wpAny_bind (wpAny_field H1 rfl (x := rawInt c) rfl ?_)
  show wpAny _ _ (field (.ref en) 4 >>= _) _ _ ⟨g1, gs, dr, n, os⟩
  refine wpAny_bind (wpAny_field H1 rfl (x := .none) rfl ?_)
  show wpAny _ _ (mkInt c >>= _) _ _ ⟨g1, gs, dr, n, os⟩
  refine wpAny_bind (wpAny_mkInt ?_)
  show wpAny _ _ (setField (.ref en) 3 (rawInt (c + 1)) >>= _) _ _ ⟨g1, gs, dr, n + 1, os⟩
  refine wpAny_bind (wpAny_setField_rec H1 (by simp) fun g2 H2 B2 => ?_)
  show wpAny _ _ (setField (.ref en) 4 .none >>= _) _ _ ⟨g2, gs, dr, n + 1, os⟩
  refine wpAny_bind (wpAny_setField_rec (show IsEnumHeld g2 en li (c + 1) o5 T fl from H2) (by simp) fun g3 H3 B3 => ?_)
  have C1 : Heap.SameBut li hp g1 := B1
  have C2 : Heap.SameBut en g1 g2 := B2
  have C3 : Heap.SameBut en g2 g3 := B3
  have eqs : g3.objs.size = hp.objs.size := C3.1.trans (C2.1.trans C1.1)
  show wpAny _ _ (newTuple [.int c n, y] >>= _) _ _ ⟨g3, gs, dr, n + 1, os⟩
  refine wpAny_bind (wpAny_newTuple ?_)
  have H4 : IsEnumHeld (g3.push { cls := .type "tuple", data := .seq #[.int c n, y] }) en li (c + 1) o5 T fl := Heap.get?_push_of_some _ (show IsEnumHeld g3 en li (c + 1) o5 T fl from H3)
  have T4 : (g3.push { cls := .type "tuple", data := .seq #[.int c n, y] }).get? hp.objs.size = some { cls := .type "tuple", data := .seq #[.int c n, y] } := eqs ▸ Heap.get?_push_size _ rfl
  have K4 : ∀ b u, b ≠ en → b ≠ li → hp.get? b = some u → (g3.push { cls := .type "tuple", data := .seq #[.int c n, y] }).get? b = some u :=
    fun b u n1 n2 e => Heap.get?_push_of_some _ (C3.extBut b u n1 (C2.extBut b u n1 (C1.extBut b u n2 e)))
  have L4 : (g3.push { cls := .type "tuple", data := .seq #[.int c n, y] }).IsListIter li l (i + 1) := by
    rcases (L1.extBut C2.extBut (Ne.symm nei)).extBut C3.extBut (Ne.symm nei) with ⟨u, eu, q⟩
    exact ⟨u, Heap.get?_push_of_some _ eu, q⟩
  rw [eqs]
  generalize (g3.push { cls := .type "tuple", data := .seq #[.int c n, y] } : Heap) = g4 at H4 T4 K4 L4 ⊢
  show wpAny _ _ (Builtin.SmallTypes.ownedTupleIsFree (.ref en) >>= _) _ _ ⟨g4, gs, dr, n + 1, os⟩
  refine wpAny_bind (wpAny_tupleHeld_enum (s := ⟨g4, gs, dr, n + 1, os⟩) H4 (K4 T oT nTe nTi hT) fun g5 H5 B5 => ?_)
  have C5 : Heap.SameBut en g4 g5 := B5
  simp only [Bool.false_eq_true, if_false]
  exact wpAny_pure ⟨_, rfl, fin g5 H5 (L4.extBut C5.extBut (Ne.symm nei)) (C5.extBut _ _ (Nat.ne_of_gt len) T4) fun b u n1 n2 e => C5.extBut b u n1 (K4 b u n1 n2 e)⟩
theorem held_next {en li l T : Addr} {i : Nat} {c : Int} {ys : Array Value} {y o5 : Value} {fl : Bool} {oT : Obj} {R : Option Value → Shared → Prop}
    (H0 : IsEnumHeld σs.heap en li c o5 T fl) (hT : σs.heap.get? T = some oT) (nTe : T ≠ en) (nTi : T ≠ li) (hL : σs.heap.IsListIter li l i) (hl : σs.heap.IsList l ys) (hy : ys[i]? = some y) (nei : en ≠ li)
    (fin : ∀ hp', IsEnumHeld hp' en li (c + 1) o5 T true → hp'.IsListIter li l (i + 1) → hp'.get? σs.heap.objs.size = some { cls := .type "tuple", data := .seq #[.int c σs.toks, y] } →
      (∀ b u, b ≠ en → b ≠ li → σs.heap.get? b = some u → hp'.get? b = some u) → R (some (.ref σs.heap.objs.size)) { σs with heap := hp', toks := σs.toks + 1 }) :
    wpAny (model prog w) A (pyNext (.ref en)) R E σs := by
  have ty : σs.TypeIs (.ref en) "enumerate" := ⟨_, H0, rfl⟩
  unfold pyNext
  refine wpAny_bind (wpAny_attempt (wpAny_callSpecial?_slot (name := Str.ofString "__next__") ty PySem.F.slot_enumerate_next (wpAny_call_entry PySem.F.slot_enumerate_next ty PySem.F.entry_enumerate_next ?_ (PySem.F.args_enumerate_next_1 _))))
  exact held_body H0 hT nTe nTi hL hl hy nei fun g a1 a2 a3 a4 => wpAny_pure (fin g a1 a2 a3 a4)
theorem held_stop {en li l T : Addr} {i : Nat} {c : Int} {ys : Array Value} {o5 : Value} {fl : Bool} {R : Option Value → Shared → Prop} (hh : A.handled = none)
    (H0 : IsEnumHeld σs.heap en li c o5 T fl) (hL : σs.heap.IsListIter li l i) (hl : σs.heap.IsList l ys) (hy : ys[i]? = none) (fin : ∀ g, Heap.ExtBut li σs.heap g → R none { σs with heap := g }) :
    wpAny (model prog w) A (pyNext (.ref en)) R E σs := by
  have ty : σs.TypeIs (.ref en) "enumerate" := ⟨_, H0, rfl⟩
  unfold pyNext
  refine wpAny_bind (wpAny_attempt (wpAny_callSpecial?_slot (name := Str.ofString "__next__") ty PySem.F.slot_enumerate_next (wpAny_call_entry PySem.F.slot_enumerate_next ty PySem.F.entry_enumerate_next ?_ (PySem.F.args_enumerate_next_1 _))))
  show wpAny _ _ (field (.ref en) 2 >>= _) _ _ _
  refine wpAny_bind (wpAny_field H0 rfl (x := .ref li) rfl (wpAny_bind (wpAny_nextOf_list_end hh hL hl hy fun g x hg hx => ?_)))
  rcases hx with ⟨u, hu, hc⟩
  exact wpAny_bind (wpAny_isInstance (T := "StopIteration") (b := true) ⟨u, hu, hc⟩ isSubtype_stop (wpAny_pure (fin g hg)))
end
/-- one turn -/
def LeW (K : PySem.W.Frag) (a D : Addr) (k : Int) (xs : List V) (W : Nat → Hp → Prop) : Prop := ∀ i H, i < xs.length → W i H → SqL K H a xs ∧ ∃ acc, H D = some (.lst acc) ∧ acc.length < sizeLine ∧
  ∀ T x, H T = none → xs[i]? = some x → W (i + 1) (upd (upd H T (.tup [.int (k + (i : Nat)), x])) D (.lst (acc ++ [.ref T])))
section
variable {X : Cx} {pins : List (Addr × Obj)} {σ : L2.St} {a e it D : Addr} {k : Int} {xs : List V} {W : Nat → Hp → Prop} {A : Around} {Rs : Result → Shared → Prop}
/-- how far it is: nothing is out, or a pair is out that lives -/
def EnSt (s : Heap) (e it D : Addr) (c : Int) : Prop := (∃ old, IsEnum s e it c old) ∨ ∃ old T f oT, IsEnumHeld s e it c old T f ∧ s.get? T = some oT ∧ T ≠ e ∧ T ≠ it ∧ T ≠ D
theorem EnSt.lt {s : Heap} {c : Int} (h : EnSt s e it D c) : e < s.objs.size := by
  rcases h with ⟨_, h⟩ | ⟨_, _, _, _, h, _⟩
  · exact Heap.lt_size h
  · exact Heap.lt_size h
theorem EnSt.keeps {s s' : Heap} {c : Int} (h : EnSt s e it D c) (hD : D ≠ e) (k : ∀ b, b ≠ D → ∀ o, s.get? b = some o → s'.get? b = some o) : EnSt s' e it D c := by
  rcases h with ⟨u, h⟩ | ⟨u, T, f, oT, h, hT, n1, n2, n3⟩
  · exact .inl ⟨u, k e (Ne.symm hD) _ h⟩
  · exact .inr ⟨u, T, f, oT, k e (Ne.symm hD) _ h, k T n3 _ hT, n1, n2, n3⟩
theorem enum_loop (hA : A.in1.in1.handled = none) (hgo : LeW X.K a D k xs W) (hend : ∀ H, W xs.length H → SqL X.K H a xs) (hdone : ∀ H s, L2.Inv X pins σ H s → W xs.length H → Rs (.ok (.ret .none)) s) :
    ∀ (n i : Nat) (H : Hp) (s : Shared), xs.length - i = n → i ≤ xs.length → L2.Inv X pins σ H s → W i H → EnSt s.heap e it D (k + ((i : Nat) : Int)) → s.heap.IsListIter it a i → e ≠ it → a ≠ it → a ≠ e → D ≠ e → D ≠ it → (∀ b ∈ [e, it], FpOk X pins H b) →
    codeAny (model X.prog X.w) A (.builtin "list.extend.loop" ⟨[.ref D, .ref e, .none], []⟩) Rs s := by
  intro n
  induction n with
  | zero =>
    intro i H s hn hi I hW he hit hne hai hae hDe hDi hf
    have hin : i = xs.length := by omega
    subst hin
    have hq := hend H hW
    obtain ⟨its, rv, p, hz⟩ := I.list hq
    obtain ⟨f0, f1, f2, f3, f4, f5⟩ := hf it (by simp)
    have hl := rv.length
    have hsz : xs.length = its.toArray.size := by simp; omega
    refine codeAny_builtin PySem.F.entry_extend_loop ?_
    rw [Around.under_plainId PySem.F.plain_extend_loop _]
    show wpAny _ A.in1 (pyNext (.ref e) >>= _) _ _ s
    rw [hsz] at he hit hdone hW
    rcases he with ⟨old, he⟩ | ⟨old, T, f, oT, he, hT, n1, n2, n3⟩
    · exact wpAny_bind (wpAny_pyNext_enum_endD (Draws.list hA it a hai its.toArray) he ⟨hit, p.isList⟩ fun h' eb => wpAny_pure (hdone _ _ (I.turned (t' := s.toks) (fun b o hb q => eb b o hb q) f0 f1 f3 f4 f5) hW))
    · exact wpAny_bind (held_stop hA he hit p.isList (by simp) fun h' eb => wpAny_pure (hdone _ _ (I.turned (t' := s.toks) (fun b o hb q => eb b o hb q) f0 f1 f3 f4 f5) hW))
  | succ n ih =>
    intro i H s hn hi I hW he hit hne hai hae hDe hDi hf
    have hlt : i < xs.length := by omega
    obtain ⟨hq, acc, hD, hacc, hnx⟩ := hgo i H hlt hW
    obtain ⟨its, rv, p, hz⟩ := I.list hq
    have hx : xs[i]? = some xs[i] := List.getElem?_eq_getElem hlt
    obtain ⟨u, hu, ru⟩ := rv.get hx
    have hel : e < s.heap.objs.size := he.lt
    have hil : it < s.heap.objs.size := by obtain ⟨_, q, _⟩ := hit; exact Heap.lt_size q
    have hlt2 : i < its.toArray.size := by simpa using (List.getElem?_eq_some_iff.mp hu).1
    have fT : H s.heap.objs.size = none := I.hok.fresh (Nat.le_refl _)
    have nDT : D ≠ s.heap.objs.size := fun z => by rw [z, fT] at hD; cases hD
    have tail : ∀ (h' : Heap) (tk : Nat), EnSt h' e it D (k + ((i : Nat) : Int) + 1) → h'.IsListIter it a (i + 1) → h'.get? s.heap.objs.size = some { cls := .type "tuple", data := .seq #[.int (k + ((i : Nat) : Int)) tk, u] } →
        (∀ b o, b ≠ e → b ≠ it → s.heap.get? b = some o → h'.get? b = some o) → wpAny (model X.prog X.w) A.in1 (updateSeq D (·.push (.ref s.heap.objs.size)) >>= fun _ => again (.builtin "list.extend.loop" ⟨[.ref D, .ref e, .none], []⟩))
        (fun fin s' => match fin with | .done f => Rs (.ok f) s' | .again c' => c'.quiet = true ∧ codeAny (model X.prog X.w) A c' Rs s') (fun e s' => Rs (.error e) s') { s with heap := h', toks := tk + 1 } := by
      intro h' tk ho hit' hT hk
      have new : ObjOk X.prog X.w (upd H s.heap.objs.size (.tup [.int (k + (i : Nat)), xs[i]])) h' s.heap.objs.size (.tup [.int (k + (i : Nat)), xs[i]]) :=
        ⟨by show 2 ≤ sizeLine; decide, [.int (k + ((i : Nat) : Int)) tk, u], .cons ⟨_, rfl⟩ (.cons ru .nil), ⟨_, hT, rfl, _, rfl⟩⟩
      have I1 : L2.Inv X pins σ (upd H s.heap.objs.size (.tup [.int (k + (i : Nat)), xs[i]])) { s with heap := h', toks := tk + 1 } :=
        I.turnedNew (ch := [e, it]) (fun b ob hb q => hk b ob (fun z => hb (by simp [z])) (fun z => hb (by simp [z])) q) hf (Nat.le_refl _) new
      have hD1 : upd H s.heap.objs.size (.tup [.int (k + (i : Nat)), xs[i]]) D = some (.lst acc) := by rw [upd_ne nDT]; exact hD
      obtain ⟨z, its2, c2, r2, hl2, e2⟩ := I1.lstM hD1
      refine wpAny_bind (wpAny_updateSeq e2 rfl (wpAny_pure ⟨plainId_quiet PySem.F.plain_extend_loop _, ?_⟩) (by rw [List.size_toArray]; omega) (by show (its2.toArray.push _).size ≤ sizeLine + 1; rw [Array.size_push, List.size_toArray]; omega))
      have I2 := I1.lset (f := (·.push (.ref s.heap.objs.size))) (its' := its2 ++ [.ref s.heap.objs.size]) (ys := acc ++ [.ref s.heap.objs.size]) (t' := tk + 1) hD1 e2 (by simp) (r2.append (.cons (show L2.RelV (.ref s.heap.objs.size) (.ref s.heap.objs.size) from rfl) .nil)) (by rw [List.length_append, List.length_singleton]; omega)
      have oth : ∀ b, b ≠ D → ∀ o, h'.get? b = some o → (h'.update D (Obj.mapSeq (·.push (.ref s.heap.objs.size)))).get? b = some o := fun b hb o q => (Heap.get?_update_other _ _ (Ne.symm hb)).trans q
      refine ih (i + 1) _ _ (by omega) hlt I2 (hnx _ _ fT hx) ?_ (hit'.at fun o q => oth it (Ne.symm hDi) o q) hne hai hae hDe hDi fun b hb => ?_
      · have e1 : k + ((i + 1 : Nat) : Int) = k + (i : Int) + 1 := by omega
        rw [e1]
        exact ho.keeps hDe oth
      · have hb' : b < s.heap.objs.size := by
          have e' : b = e ∨ b = it := by simpa using hb
          rcases e' with z | z
          · rw [z]; exact hel
          · rw [z]; exact hil
        have hbD : b ≠ D := by
          have e' : b = e ∨ b = it := by simpa using hb
          rcases e' with z | z
          · rw [z]; exact Ne.symm hDe
          · rw [z]; exact Ne.symm hDi
        obtain ⟨g0, g1, g2, g3, g4, g5⟩ := hf b hb
        exact ⟨by rw [upd_ne hbD, upd_ne (Nat.ne_of_lt hb')]; exact g0, g1, g2, g3, g4, g5⟩
    refine codeAny_builtin PySem.F.entry_extend_loop ?_
    rw [Around.under_plainId PySem.F.plain_extend_loop _]
    show wpAny _ A.in1 (pyNext (.ref e) >>= _) _ _ s
    rcases he with ⟨old, he⟩ | ⟨old, T, f, oT, he, hT, n1, n2, n3⟩
    · refine wpAny_bind (wpAny_pyNext_enum_itemC (Draws.list hA it a hai its.toArray) he ⟨hit, p.isList⟩ hlt2 hne (by simp [hne, Ne.symm hae]) fun x' h' tk hP' ho hit' hT hsz hk => ?_)
      obtain rfl : x' = u := by
        have h1 : its.toArray[i]? = some x' := hP'
        have h2 : its.toArray[i]? = some u := by simpa using hu
        rw [h1] at h2
        exact Option.some.inj h2
      exact tail h' tk (.inr ⟨_, s.heap.objs.size, false, _, ho, hT, Nat.ne_of_gt hel, Nat.ne_of_gt hil, Ne.symm nDT⟩) hit'.1 hT hk
    · refine wpAny_bind (held_next he hT n1 n2 hit p.isList (by simpa using hu) hne fun h' a1 a2 a3 hk => ?_)
      exact tail h' s.toks (.inr ⟨old, T, true, oT, a1, hk T oT n1 n2 hT, n1, n2, n3⟩) a2 a3 hk
/-- list.__init__ with it, its list new -/
theorem enum_init (hA : A.in1.in1.handled = none) (hgo : LeW X.K a D k xs W) (hend : ∀ H, W xs.length H → SqL X.K H a xs) (hdone : ∀ H s, L2.Inv X pins σ H s → W xs.length H → Rs (.ok (.ret .none)) s)
    {H : Hp} {s : Shared} (I : L2.Inv X pins σ H s) (hD : H D = some (.lst [])) (hW : W 0 H) {old : Value} (he : IsEnum s.heap e it k old) (hit : s.heap.IsListIter it a 0) (hne : e ≠ it) (hai : a ≠ it) (hae : a ≠ e) (hDe : D ≠ e) (hDi : D ≠ it) (hf : ∀ b ∈ [e, it], FpOk X pins H b) :
    wpAny (model X.prog X.w) A.in1 (Builtin.List.listExtendWith (.ref D) (.ref e) .none)
      (fun fin s' => match fin with | .done f => Rs (.ok f) s' | .again c' => c'.quiet = true ∧ codeAny (model X.prog X.w) A c' Rs s') (fun e s' => Rs (.error e) s') s := by
  have hty : s.TypeIs (.ref e) "enumerate" := ⟨_, he, rfl⟩
  unfold Builtin.List.listExtendWith
  refine wpAny_bind (wpAny_typeOf hty ?_)
  have h1 : Builtin.List.listSameRef (.ref D) (.ref e) = false := by simp [Builtin.List.listSameRef, hDe]
  have h2 : (Value.type "enumerate" == Value.type "list") = false := by decide
  have h3 : (Value.type "enumerate" == Value.type "tuple") = false := by decide
  simp only [h1, h2, h3, Bool.or_false, Bool.false_eq_true, if_false]
  refine wpAny_bind (wpAny_pyIter_enum he ?_)
  refine wpAny_bind (wpAny_holding ?_)
  unfold Builtin.List.listLengthHint
  refine wpAny_bind (wpAny_specialOf hty enum_no_len ?_)
  refine wpAny_ite_split (fun h => absurd h (by decide)) (fun _ => ?_)
  refine wpAny_ite_split (fun h => absurd h (by decide)) (fun _ => ?_)
  refine wpAny_bind (wpAny_specialOf hty enum_no_hint ?_)
  refine wpAny_pure ?_
  obtain ⟨z, its, c, r3, hl3, e3⟩ := I.lstM hD
  cases r3
  refine wpAny_bind (wpAny_rule ?_)
  refine wpAny_bind ?_
  show wpAny _ _ (updateSeq D (·.push .none) >>= fun _ => updateSeq D (·.pop)) _ _ _
  refine wpAny_bind (wpAny_updateSeq e3 rfl ?_)
  have I2 := I.lset (f := (·.push Value.none)) (its' := [Value.none]) (ys := [.non]) (t' := s.toks) hD e3 (by simp) (.cons rfl .nil) (by rw [List.length_singleton, sizeLine_eq]; decide)
  obtain ⟨z4, its4, k4, r4, hl4, e4⟩ := I2.lstM upd_same
  obtain ⟨u4, rfl, ru4⟩ := r4.one
  refine wpAny_updateSeq e4 rfl ?_ (by show 1 ≤ sizeLine; rw [sizeLine_eq]; decide) (by show 0 ≤ sizeLine + 1; exact Nat.zero_le _)
  have I3 := I2.lset (f := (·.pop)) (its := [u4]) (its' := []) (ys := []) (t' := s.toks) upd_same e4 (by rfl) .nil (Nat.zero_le _)
  rw [upd_upd] at I3
  have hH : upd H D (.lst []) = H := by
    funext b
    by_cases hb : b = D
    · rw [hb, upd_same, hD]
    · rw [upd_ne hb]
  rw [hH] at I3
  have oth : ∀ b, b ≠ D → ∀ o, s.heap.get? b = some o → ((s.heap.update D (Obj.mapSeq (·.push Value.none))).update D (Obj.mapSeq (·.pop))).get? b = some o := fun b hb o q => (Heap.get?_update_other _ _ (Ne.symm hb)).trans ((Heap.get?_update_other _ _ (Ne.symm hb)).trans q)
  refine wpAny_pure ⟨plainId_quiet PySem.F.plain_extend_loop _, enum_loop hA hgo hend hdone xs.length 0 H _ (by omega) (Nat.zero_le _) I3 hW (.inl ⟨old, ?_⟩) (hit.at fun o q => oth it (Ne.symm hDi) o q) hne hai hae hDe hDi hf⟩
  rw [show k + ((0 : Nat) : Int) = k from by omega]
  exact oth e (Ne.symm hDe) _ he
end
/-- enumerate(xs, start=k) over a list, as a thing of its own -/
def tEn (K : PySem.W.Frag) (ta tk : TA) (σ : L2.St) (H : Hp) (q : Addr → List V → Int → Hp → Prop) : Prop := ta σ H fun vs H1 => tk σ H1 fun zs H2 => ∃ a xs k, vs = [.ref a] ∧ zs = [.int k] ∧ (-(2 ^ 62) ≤ k ∧ k < 2 ^ 62) ∧ SqL K H2 a xs ∧ q a xs k H2
structure EnOut (X : Cx) (pins : List (Addr × Obj)) (σ : L2.St) (q : Addr → List V → Int → Hp → Prop) (v : Value) (s1 : Shared) : Prop where
  ex : ∃ (en li a : Addr) (xs : List V) (k : Int) (old : Value) (H1 : Hp), v = .ref en ∧ L2.Inv X pins σ H1 s1 ∧ IsEnum s1.heap en li k old ∧ s1.heap.IsListIter li a 0 ∧ (en ≠ li ∧ a ≠ li ∧ a ≠ en ∧ en < s1.heap.objs.size ∧ li < s1.heap.objs.size) ∧ (∀ b ∈ [en, li], FpOk X pins H1 b) ∧ SqL X.K H1 a xs ∧ q a xs k H1
theorem en_run {X : Cx} {e : Expr} {ta tk : TA} {kws : List Keyword} {p pos : Pos} (hg : Gl X "enumerate") (hm : X.mg "enumerate" = none) (ha : PA X [e] ta) (hkw : PK X kws tk)
    (he : backTo pos (starEach (e :: []) X.env) = (false, eval e X.env) :: backTo pos (starEach [] X.env) := by rfl) (hpl : (backTo pos (starEach (e :: []) X.env)).any (·.1) = false := by rfl)
    (hall : (backToKw pos (keywordEach kws X.env)).all (·.1.isSome) = true := by rfl) (hnone : (backToKw pos (keywordEach kws X.env)).any (·.1.isNone) = false := by rfl) (hks : (backToKw pos (keywordEach kws X.env)).filterMap (·.1) = [Str.ofString "start"] := by rfl)
    {pins : List (Addr × Obj)} {s : Shared} {σ : L2.St} {H : Hp} {q : Addr → List V → Int → Hp → Prop} (I : L2.Inv X pins σ H s) (h : tEn X.K ta tk σ H q) :
    wpAny (model X.prog X.w) X.A (eval (.Call (.Name "enumerate" p) [e] kws pos) X.env) (EnOut X pins σ q) X.xe s := by
  refine wpAny_Call_Name_kw (ld_blt I hg hm boot_enumerate ?_)
  refine callWith_typeK (thn (ha.run pos pins s σ H _ I h) fun us s1 ⟨vs, H1, I1, r1, q1⟩ => thn (hkw.run pos pins s1 σ H1 _ I1 q1) fun ws s2 ⟨zs, H2, I2, r2, q2⟩ => ?_) he hpl hall hnone
  rw [hks]
  obtain ⟨a, xs, k, ex, ez, hk, hq, q⟩ := q2
  subst ex ez
  cases r2 with
  | cons rz rr2 =>
  cases rr2
  obtain ⟨t, rfl⟩ := rz
  cases r1 with
  | cons r rr =>
    cases rr
    cases r
    obtain ⟨its, rv, p', hz⟩ := I2.list hq
    have la : a < s2.heap.objs.size := p'.lt
    refine enum_begins_start (begins_list a its.toArray) p'.isList (by omega) (by omega) fun h' he hit hsz hk => ?_
    have I3 : L2.Inv X pins σ H2 { s2 with heap := h' } := I2.kept (t' := s2.toks) hk
    refine ⟨s2.heap.objs.size + 1, s2.heap.objs.size, a, xs, k, .none, H2, rfl, I3, by simpa using he, ⟨_, hit, rfl, rfl⟩, ⟨Nat.succ_ne_self _, Nat.ne_of_lt la, fun z => absurd (z ▸ la) (Nat.not_lt.mpr (Nat.le_succ _)), Heap.lt_size he, Heap.lt_size hit⟩, fun b hb => ?_, hq, q⟩
    have hb2 : s2.heap.objs.size ≤ b := by
      have hb3 : b = s2.heap.objs.size + 1 ∨ b = s2.heap.objs.size := by simpa using hb
      rcases hb3 with z | z
      · rw [z]; exact Nat.le_succ _
      · rw [z]; exact Nat.le_refl _
    exact I2.fpOk hb2 (I2.hok.fresh hb2)
def tListE (K : PySem.W.Frag) (ta tk : TA) : TE := fun σ H Q => tEn K ta tk σ H fun a xs k H1 => Stop (∀ D, H1 D = none → ∃ W : Nat → Hp → Prop, W 0 (upd H1 D (.lst [])) ∧ LeW K a D k xs W ∧ ∀ H2, W xs.length H2 → SqL K H2 a xs ∧ Q (.ref D) H2)
theorem pe_listE {X : Cx} {e : Expr} {ta tk : TA} {kws : List Keyword} {p p2 pos pos2 : Pos} (hc : X.calm = true) (hgl : Gl X "list") (hml : X.mg "list" = none) (hg : Gl X "enumerate") (hm : X.mg "enumerate" = none) (ha : PA X [e] ta) (hkw : PK X kws tk)
    (na : starEach [Expr.Call (.Name "enumerate" p2) [e] kws pos2] X.env = (false, eval (.Call (.Name "enumerate" p2) [e] kws pos2) X.env) :: starEach [] X.env := by rfl)
    (he : backTo pos2 (starEach (e :: []) X.env) = (false, eval e X.env) :: backTo pos2 (starEach [] X.env) := by rfl) (hpl : (backTo pos2 (starEach (e :: []) X.env)).any (·.1) = false := by rfl)
    (hall : (backToKw pos2 (keywordEach kws X.env)).all (·.1.isSome) = true := by rfl) (hnone : (backToKw pos2 (keywordEach kws X.env)).any (·.1.isNone) = false := by rfl) (hks : (backToKw pos2 (keywordEach kws X.env)).filterMap (·.1) = [Str.ofString "start"] := by rfl) :
    PE X (.Call (.Name "list" p) [.Call (.Name "enumerate" p2) [e] kws pos2] [] pos) (tListE X.K ta tk) := by
  refine ⟨fun pins s σ H Q I h => ?_⟩
  refine Call_ (ld_blt I hgl hml boot_list (PyProof.Rows.callWith_type1 (args_cons (thn (en_run hg hm ha hkw he hpl hall hnone hks I h) fun v s1 ⟨ex⟩ => args_nil ?_) na) na))
  obtain ⟨en, li, a, xs, k, old, H1, rfl, I1, he1, hit, ⟨n1, n2, n3, n4, n5⟩, hf, hq, hw⟩ := ex
  refine callType_codes (Q₁ := fun ob s2 => ob = .ref s1.heap.objs.size ∧ s2 = { s1 with heap := s1.heap.push { cls := .type "list", data := .seq #[] } }) PySem.F.called_list (PySem.F.typeCall_list_1 _) PySem.F.entry_list_init (code_list_new _ ⟨rfl, rfl⟩) fun ob s2 hob => ?_
  obtain ⟨rfl, rfl⟩ := hob
  have new : (s1.heap.push { cls := .type "list", data := .seq #[] }).get? s1.heap.objs.size = some { cls := .type "list", data := .seq #[] } := Heap.get?_push_size _ rfl
  have fr : H1 s1.heap.objs.size = none := I1.hok.fresh (Nat.le_refl _)
  obtain ⟨W, w0, wgo, wend⟩ := hw.h _ fr
  have I2 : L2.Inv X pins σ (upd H1 s1.heap.objs.size (.lst [])) { s1 with heap := s1.heap.push { cls := .type "list", data := .seq #[] } } := I1.lnew (its := []) (t' := s1.toks) .nil (Nat.zero_le _)
  refine ⟨⟨_, new, rfl⟩, PySem.F.args_list_init_2 _ _, ?_⟩
  show wpAny _ _ (do let old ← Builtin.List.listItems (.ref s1.heap.objs.size); Builtin.List.listUpdate (.ref s1.heap.objs.size) (fun _ => #[]); letGo old.toList.reverse; Builtin.List.listExtendWith (.ref s1.heap.objs.size) (.ref en) .none) _ _ _
  unfold Builtin.List.listItems
  refine wpAny_bind (wpAny_bind (wpAny_seqItems new rfl (wpAny_pure ?_)))
  show wpAny _ _ (updateSeq s1.heap.objs.size (fun _ => #[]) >>= fun _ => letGo (#[] : Array Value).toList.reverse >>= fun _ => Builtin.List.listExtendWith (.ref s1.heap.objs.size) (.ref en) .none) _ _ _
  refine wpAny_bind (wpAny_updateSeq new rfl (wpAny_bind (wpAny_letGo ?_)))
  have I3 := I2.lset (f := fun _ => #[]) (its := []) (its' := []) (ys := []) (t' := s1.toks) upd_same new rfl .nil (Nat.zero_le _)
  rw [upd_upd] at I3
  have oth : ∀ b, b ≠ s1.heap.objs.size → ∀ o, s1.heap.get? b = some o → ((s1.heap.push { cls := .type "list", data := .seq #[] }).update s1.heap.objs.size (Obj.mapSeq fun _ => #[])).get? b = some o := fun b hb o q => (Heap.get?_update_other _ _ (Ne.symm hb)).trans (Heap.get?_push_of_some _ q)
  exact enum_init (A := X.A.in1) (Rs := wants (fun r s₂ => r = .none ∧ EP X pins σ Q (.ref s1.heap.objs.size) s₂) X.xe) (show X.A.in1.in1.in1.handled = none from I1.ok.hd hc) wgo (fun H2 h2 => (wend H2 h2).1) (fun H2 s2 J h2 => ⟨rfl, .ref s1.heap.objs.size, H2, J, rfl, (wend H2 h2).2⟩) I3 upd_same w0
    (oth en (Nat.ne_of_lt n4) _ he1) (hit.at fun o q => oth li (Nat.ne_of_lt n5) o q) n1 n2 n3 (Nat.ne_of_gt n4) (Nat.ne_of_gt n5) fun b hb => by
      obtain ⟨g0, g1, g2, g3, g4, g5⟩ := hf b hb
      have e' : b = en ∨ b = li := by simpa using hb
      have ne : b ≠ s1.heap.objs.size := by
        rcases e' with z | z
        · rw [z]; exact Nat.ne_of_lt n4
        · rw [z]; exact Nat.ne_of_lt n5
      exact ⟨by rw [upd_ne ne]; exact g0, g1, g2, g3, g4, g5⟩
/-- the pairs as data -/
def enumD (k : Int) (ds : List PyData) : List PyData := ds.zipIdx.map fun z => .tuple [.int (k + (z.2 : Nat)), z.1]
theorem enumD_len (k : Int) (ds : List PyData) : (enumD k ds).length = ds.length := by rw [enumD, List.length_map, List.length_zipIdx]
theorem enumD_at {k : Int} {ds : List PyData} {i : Nat} {d : PyData} (h : ds[i]? = some d) : (enumD k ds)[i]? = some (.tuple [.int (k + (i : Nat)), d]) := by
  rw [enumD, List.getElem?_map, List.getElem?_zipIdx, h]
  simp
/-- owned: the list of the pairs, all that stood beside -/
theorem own_listE {K : PySem.W.Frag} {H1 : Hp} {L : List (Addr × Ob)} {P : List Pf} {a : Addr} {xs : List V} {ds : List PyData} {k : Int} {G : Addr → Hp → Prop} (hO : Own K H1 L P)
    (hq : ∀ (H' : Hp) (L' : List (Addr × Ob)) (P' : List Pf), (∀ p ∈ L, p ∈ L') → Ps P P' → Own K H' L' P' → SqL K H' a xs) (dv : Dv K P xs ds) (hl : xs.length = ds.length) (hz : xs.length ≤ 10000)
    (kk : ∀ (D : Addr) (H' : Hp) (P' : List Pf), Ps P P' → Own K H' ((D, .L (enumD k ds)) :: L) P' → G D H') :
    ∀ D, H1 D = none → ∃ W : Nat → Hp → Prop, W 0 (upd H1 D (.lst [])) ∧ LeW K a D k xs W ∧ ∀ H2, W xs.length H2 → SqL K H2 a xs ∧ G D H2 := by
  intro D hD
  refine ⟨fun i H => ∃ (P' : List Pf) (acc : List V), Ps P P' ∧ acc.length = i ∧ Dv K P' acc ((enumD k ds).take i) ∧ Own K H ((D, .raw (.lst acc)) :: L) P', ⟨P, [], Ps.refl, rfl, by rw [List.take_zero]; exact Dv.nil, hO.new hD rfl⟩, fun i H hi h => ?_, fun H2 h => ?_⟩
  · obtain ⟨P', acc, sp, ha, da, o⟩ := h
    have hi2 : i < ds.length := by omega
    refine ⟨hq _ _ _ (fun p m => List.mem_cons_of_mem _ m) sp o, acc, o.raw List.mem_cons_self, size_lt (by omega), fun T x fT hx => ?_⟩
    have o2 := o.newT (vs := [.int (k + (i : Nat)), x]) fT rfl
    refine ⟨.tup T [.int (k + (i : Nat)), x] :: P', acc ++ [.ref T], sp.trans (Ps.skip Ps.refl), by rw [List.length_append, List.length_singleton, ha], ?_, o2.set .head rfl⟩
    have hd : ds[i]? = some ds[i] := List.getElem?_eq_getElem hi2
    rw [List.take_add_one, enumD_at hd]
    exact Dv.app (fun M q => da M fun r hr => q r (List.mem_cons_of_mem _ hr)) (Dv.cons (Dv1.tup List.mem_cons_self (Dv.cons (Dv1.int _) (Dv.cons (fun M q => (Dv.get dv hx hd) M fun r hr => q r (List.mem_cons_of_mem _ (sp r hr))) Dv.nil))) Dv.nil)
  · obtain ⟨P', acc, sp, ha, da, o⟩ := h
    refine ⟨hq _ _ _ (fun p m => List.mem_cons_of_mem _ m) sp o, kk D H2 P' sp ?_⟩
    rw [List.take_of_length_le (by rw [enumD_len]; omega)] at da
    exact o.closeL List.mem_cons_self da .head
end Hx

set_option Elab.async false
set_option linter.all false
set_option maxRecDepth 100000
set_option maxHeartbeats 4000000
/-! what repr asks of nested tuples and lists of small things; sorted lists of places -/
namespace Hx
open PySem PySem.Spec PyProof.Rows L2
structure Sh (k b : Nat) (d : PyData) : Prop where
  sw : d.showable = true
  nd : d.hasDict = false
  dp : d.depth ≤ k
  ln : d.shown.length ≤ b
theorem Sh.mono {k b k' b' : Nat} {d : PyData} (x : Sh k b d) (h1 : k ≤ k') (h2 : b ≤ b') : Sh k' b' d := ⟨x.sw, x.nd, Nat.le_trans x.dp h1, Nat.le_trans x.ln h2⟩
theorem sh_num {n : Int} (h : 0 ≤ n ∧ n < 10 ^ 20) : Sh 0 20 (.int n) := ⟨by rw [PyData.showable]; exact decide_eq_true (log_small h), by rw [PyData.hasDict], by simp [PyData.depth], by
  rw [PyData.shown]; exact toString_length_le h.1 (by decide : 0 < 20) h.2⟩
theorem sh_non : Sh 0 20 .none := ⟨by rw [PyData.showable], by rw [PyData.hasDict], by simp [PyData.depth], by rw [PyData.shown]; decide⟩
theorem sh_all {k b : Nat} : ∀ {ds : List PyData}, (∀ d ∈ ds, Sh k b d) → PyData.showableAll ds = true ∧ PyData.hasDictAll ds = false ∧ PyData.depthAll ds ≤ k ∧ piled (PyData.shownAll ds) ≤ (b + 2) * ds.length
  | [], _ => ⟨rfl, rfl, by simp [PyData.depthAll], Nat.le_refl _⟩
  | d :: r, h => by
    obtain ⟨i1, i2, i3, i4⟩ := sh_all (ds := r) fun x hx => h x (List.mem_cons_of_mem _ hx)
    have x := h d List.mem_cons_self
    refine ⟨by rw [PyData.showableAll, x.sw, i1]; rfl, by rw [PyData.hasDictAll, x.nd, i2]; rfl, by rw [PyData.depthAll]; exact Nat.max_le.mpr ⟨x.dp, i3⟩, ?_⟩
    rw [PyData.shownAll, piled_cons, List.length_cons, Nat.mul_succ]
    have := x.ln
    omega
theorem sh_tup {k b : Nat} (m : Nat) {ds : List PyData} (h : ∀ d ∈ ds, Sh k b d) (hm : ds.length ≤ m) : Sh (k + 1) ((b + 2) * m + 3) (.tuple ds) := by
  obtain ⟨i1, i2, i3, i4⟩ := sh_all h
  refine ⟨by rw [PyData.showable]; exact i1, by rw [PyData.hasDict]; exact i2, by rw [PyData.depth]; omega, ?_⟩
  have i5 : (b + 2) * ds.length ≤ (b + 2) * m := Nat.mul_le_mul_left _ hm
  rw [PyData.shown]
  unfold tupleText
  rw [strLen_append, strLen_append]
  have e1 : (("(" : String) : Str).length = 1 := rfl
  have e2 : ∀ c : Bool, ((if c = true then ",)" else ")" : String) : Str).length ≤ 2 := fun c => by cases c <;> decide
  have e3 : (Str.join ", " (PyData.shownAll ds)).length ≤ piled (PyData.shownAll ds) := by
    by_cases z : PyData.shownAll ds = []
    · rw [z]; exact Nat.le_refl 0
    · have := join_length_add _ z
      omega
  have := e2 ((PyData.shownAll ds).length == 1)
  rw [e1]
  omega
/-- a sorted list of the places below m, each once -/
theorem sorted_range {ns xs : List Int} {m : Nat} (hp : ns.Perm xs) (hs : ns.Pairwise (· ≤ ·)) (nd : xs.Nodup) (hl : xs.length = m) (hb : ∀ x ∈ xs, 0 ≤ x ∧ x < m) : ns = (List.range m).map fun i : Nat => (i : Int) := by
  have hn : ns.Nodup := hp.symm.nodup nd
  have h2 : ns.Pairwise (· < ·) := (hs.and hn).imp fun {a b} h => by have := h.1; have h3 : a ≠ b := h.2; omega
  have hb2 : ∀ x ∈ ns, 0 ≤ x ∧ x < m := fun x hx => hb x (hp.mem_iff.mp hx)
  have hl2 : ns.length = m := hp.length_eq.trans hl
  -- a rising list of so many below m
  have key : ∀ (ns : List Int) (a m : Int), ns.Pairwise (· < ·) → (∀ x ∈ ns, a ≤ x ∧ x < m) → (ns.length : Int) = m - a → ∀ i (h : i < ns.length), ns[i] = a + i := by
    intro ns
    induction ns with
    | nil => intro a m _ _ _ i h; simp at h
    | cons y r ih =>
      intro a m hs hb hl i h
      obtain ⟨h1, h2⟩ := List.pairwise_cons.mp hs
      have hy := hb y List.mem_cons_self
      have gap : ∀ (r : List Int) (y m : Int), r.Pairwise (· < ·) → (∀ x ∈ r, y < x ∧ x < m) → (r.length : Int) ≤ m - y - 1 ∨ r = [] := by
        intro r
        induction r with
        | nil => intro _ _ _ _; exact .inr rfl
        | cons z q ih2 =>
          intro y m hs hb
          obtain ⟨g1, g2⟩ := List.pairwise_cons.mp hs
          have hz := hb z List.mem_cons_self
          left
          rcases ih2 z m g2 (fun x hx => ⟨g1 x hx, (hb x (List.mem_cons_of_mem _ hx)).2⟩) with q1 | q1
          · rw [List.length_cons]; omega
          · rw [q1]; simp; omega
      have hya : y = a := by
        rw [List.length_cons] at hl
        rcases gap r y m h2 (fun x hx => ⟨h1 x hx, (hb x (List.mem_cons_of_mem _ hx)).2⟩) with q1 | q1
        · omega
        · rw [q1] at hl; simp at hl; omega
      subst hya
      cases i with
      | zero => simp
      | succ j =>
        rw [List.getElem_cons_succ, ih (y + 1) m h2 (fun x hx => ⟨by have := h1 x hx; omega, (hb x (List.mem_cons_of_mem _ hx)).2⟩) (by rw [List.length_cons] at hl; omega)]
        omega
  apply List.ext_getElem (by simp [hl2])
  intro i h3 h4
  rw [key ns 0 m h2 hb2 (by omega) i h3]
  simp
/-! ### an own == beside a tuple -/
theorem op_eqOwnT {X : Cx} {n : Nat} {C f : Addr} {fd : FuncData} {ps : List Str} {sp : Sp} (F : FnOk X.prog X.w X.K X.mg X.base CX0 n f fd ps sp) (hr : Room n X.A)
    (hs : PySem.W.findIn X.K (.ref C) "__eq__" = some (some (.ref f))) (hf : PySem.W.isFn X.K (.ref f) = true) (hb : Binds X.K fd ps []) (hsl : PySem.W.subIn X.K (.type "tuple") (.ref C) = some false) :
    OpR X (compareOp .Eq) (fun x y H Q => ∃ a b dx fs xs, x = .ref a ∧ y = .ref b ∧ H a = some (.ins C dx fs) ∧ H b = some (.tup xs) ∧ sp [.ref a, .ref b] H (fun v H' => ∃ c, v = .bl c ∧ Q (.bl c) H') (fun _ _ _ => False)) := by
  intro pins s σ H x y v u Q I rx ry h
  obtain ⟨a, b, dx, fs, xs, rfl, rfl, ha, hb', hsp⟩ := h
  cases rx
  cases ry
  obtain ⟨mA, J, _⟩ := ins_get I.hok ha
  obtain ⟨od, J, _⟩ := J.look
  obtain ⟨_, _, nn, _, h1, hc, _⟩ := (show ObjOk X.prog X.w H s.heap b (.tup xs) from I.hok b _ hb')
  obtain ⟨m, hF⟩ := I.fr
  have hu := hr.un
  refine PySem.W.cmp_K (op := .Eq) (tb := .type "tuple") (by omega) hF I.ok.mod.kin J (fun A Q E s k q => wpAny_typeOf_ref (k _ _ h1) (by rw [hc]; exact q)) (by simp [PySem.W.notFirst, hsl]) hs hf ?_
  have hl := F.len _ _ _ _ hsp
  have r2 : Vals [V.ref a, V.ref b] [Value.ref a, Value.ref b] := .cons rfl (.cons rfl .nil)
  have hB : BindsTo s fd ⟨[.ref a, .ref b], []⟩ (ps.zip [.ref a, .ref b]) := by
    have := hb s [.ref a, .ref b] I.kIn (by simpa using hl)
    simpa using this
  refine wpAny_call (codeAny_mono (F.run X.A X.stack s H ⟨[.ref a, .ref b], []⟩ [.ref a, .ref b] [.ref a, .ref b] _ _ hr I.env0 hB r2 hsp) fun r s' hq => ?_)
  match r, hq with
  | .ok (.ret w), hq =>
    obtain ⟨z, H', I', rz, c, rfl, q⟩ := I.after hq
    cases rz
    exact ⟨.bl c, H', I', rfl, q⟩
  | .error e, hq => exact False.elim hq
  | .ok .next, hq => exact False.elim hq
  | .ok .brk, hq => exact False.elim hq
  | .ok .cont, hq => exact False.elim hq
theorem kit_notT {K : PySem.W.Frag} {C : Addr} (h1 : PySem.W.isClsIn K C = true) (h2 : PySem.W.typeIn K (.ref C) = some (.type "type")) (h3 : PySem.W.subIn K (.type "tuple") (.ref C) = some false) : PySem.W.kitOne K (.type "tuple") (.ref C) = some false := by
  have e : ((PySem.W.clsIn K C).isSome && PySem.W.typeIn K (.ref C) == some (.type "type")) = true := by
    have h1' : (PySem.W.clsIn K C).isSome = true := h1
    rw [h1', h2] <;> rfl
  show (if ((Value.type "tuple" == .ref C) = true) then some true else (if ((PySem.W.clsIn K C).isSome && PySem.W.typeIn K (.ref C) == some (.type "type")) = true then PySem.W.subIn K (.type "tuple") (.ref C) else none)) = some false
  rw [if_neg (by intro z; cases z), if_pos e]
  exact h3
end Hx

set_option Elab.async false
set_option linter.all false
set_option maxRecDepth 100000
set_option maxHeartbeats 4000000
/-! raise X() without arguments; repr of an int or None; the sum of a tuple; calls by keywords within a try; a loop over zip with one name as its target -/
namespace Hx
open PySem PySem.Spec PyProof.Rows L2 SkE
section
variable {X : Cx} {pos : Pos}
/-- X(), X an own exception class without own __init__ -/
theorem pmk_own0 {C : Addr} {bmB : List Value} {B newId initId : String} {x : Str} {p : Pos} (F : ExcBaseFacts B newId initId bmB) (q : PySem.W.excIn X.K C bmB newId = true) (gC : X.mg x = some (.ref C))
    (kC : PySem.W.keepIn X.K (.ref C) = true) (r : Raises X (.ref C)) (hg : Gl X x) (hdb : (x == ("__debug__" : Str)) = false := by decide) :
    PMk X (.Call (.Name x p) [] [] pos) (fun _ H Q => Q (.ref C) none H) := by
  intro pins s σ H Q I h
  refine wpAny_Call_Name_kw (ld_glob I hg gC ?_ hdb)
  refine PySem.W.callWith_K0 I.kIn kC ?_
  show wpAny _ _ (call (.ref C) []) _ _ _
  obtain ⟨bm, N, nm, qn, bs, hdct, sn, sub, ab, col, dd, k0, k1, k2, k3, k5, mN, hC, hN, hni, T⟩ := exc_obj I.kIn q
  refine wpAny_call_exc_subT F T hC hN hni (fun h' e hm => ?_) (Nat.zero_le _)
  exact mk_of I hm r h (I.hok.gone hm.new)
/-- repr of an int, of None -/
def rRepIO : List V → Hp → VK → Prop := fun xs H Q => (∃ i : Int, xs = [.int i] ∧ i.natAbs.log2 < 1920 ∧ Q (.str (toString i)) H) ∨ (xs = [.non] ∧ Q (.str "None") H)
theorem call_repr_io : CallR X (.builtin "repr") rRepIO := by
  intro pins s σ H xs us Q I r h
  rcases h with h | ⟨rfl, q⟩
  · exact call_repr_int pins s σ H xs us Q I r h
  · cases r with
    | cons ru rn =>
      cases rn
      cases ru
      exact PySem.P.repr_of_none ⟨.str _, H, I.tok _, ⟨_, rfl⟩, q⟩
/-- {k: v, ..} with keys that are known -/
def tDispK (ks : List Key) (trs : List (TE × TE)) : TE := fun σ H Q => ∀ p, H p = none → tPairs trs σ (upd H p (.dK [])) fun ps H2 => H2 p = some (.dK []) ∧ ps.map Prod.fst = ks.map kV ∧ Q (.ref p) (upd H2 p (.dK (mergeK [] (ks.zip (ps.map Prod.snd)))))
theorem zip_keys : ∀ {ks : List Key} {ps : List (V × V)}, ps.map Prod.fst = ks.map kV → ps = (ks.zip (ps.map Prod.snd)).map fun kv => (kV kv.1, kv.2)
  | [], [], _ => rfl
  | [], _ :: _, h => by simp at h
  | _ :: _, [], h => by simp at h
  | k :: ks, p :: ps, h => by
    simp only [List.map_cons, List.cons.injEq] at h
    simp only [List.map_cons, List.zip_cons_cons, List.cons.injEq]
    exact ⟨by rw [← h.1], zip_keys h.2⟩
theorem pe_dispK {ks : List Key} {keys : List (Option Expr)} {values : List Expr} {trs : List (TE × TE)} (h : PPs X pos keys values trs) (hall : keys.all (·.isSome) = true) (hl : keys.length = values.length) (h0 : keys ≠ [])
    (h15 : keys.length ≤ 15) (hk : ks.length ≤ 15) : PE X (.Dict keys values pos) (tDispK ks trs) := by
  refine ⟨fun pins s σ H Q I q => ?_⟩
  have hn := I.hok.fresh (Nat.le_refl s.heap.objs.size)
  have I1 := I.laid (a := s.heap.objs.size) (o := .dK []) (h' := s.heap.push { cls := .type "dict", data := .dict #[] }) (t' := s.toks) (fun _ _ q => Heap.get?_push_of_some _ q) (Nat.le_refl _) (dk_empty s.heap I.big)
  refine wpAny_Dict_walk (knd := mixKind X.prog X.w) hall hl h0 h15 (thn (h.run pins _ σ _ _ I1 (q _ hn)) fun ws s2 ⟨ps, H2, I2, rel, e, ek, q2⟩ => ?_)
  have ep := zip_keys ek
  have lk : (ks.zip (ps.map Prod.snd)).length ≤ 15 := by rw [List.length_zip]; omega
  generalize ks.zip (ps.map Prod.snd) = kvs at ep lk q2
  subst ep
  obtain ⟨rs, c, rk⟩ := carries_of (P := X.prog) (w := X.w) rel
  obtain ⟨z, hd, vs0, r0, dd⟩ := dk_of I2.hok e
  cases r0
  refine ⟨rs, c, dd, fun h' dd' hs => ⟨.ref s.heap.objs.size, _, ?_, rfl, q2⟩⟩
  have hz : (mergeK [] kvs).length ≤ sizeLine := by
    have h1 := length_mergeK kvs []
    rw [List.length_nil] at h1
    rw [sizeLine_eq]; omega
  have he : ∃ q, h'.get? s.heap.objs.size = some q := let ⟨q, _, _, hq, _⟩ := dd'; ⟨q, hq⟩
  exact d_write I2 (by rw [e]; exact True.intro) hs he (dk_new hz hd (rk.merge .nil) dd')
theorem DGet.ks {H : Hp} {a : Addr} {kvs : List (Key × V)} {x : Str} {r : Option V} (e : H a = some (.dK kvs)) (h : valV kvs (Sum.inr x) = r) : DGet H a (.str x) r := h ▸ DGet.k (k := Sum.inr x) e
/-- in a display; in a tuple of the module's -/
theorem op_inT : OpR X (compareOp .In) (fun x y H Q => ∃ p xs, y = .ref p ∧ H p = some (.tup xs) ∧ flatV x = true ∧ xs.all flatV = true ∧ Q (.bl (inV x xs)) H) :=
  fun pins s σ H x y v u Q I rx ry ⟨p, xs, e, h, q⟩ => op_in_seq pins s σ H x y v u Q I rx ry ⟨p, xs, e, .inr (SqT.of h), q⟩
theorem op_inL : OpR X (compareOp .In) (fun x y H Q => ∃ p xs, y = .ref p ∧ H p = some (.lst xs) ∧ flatV x = true ∧ xs.all flatV = true ∧ Q (.bl (inV x xs)) H) :=
  fun pins s σ H x y v u Q I rx ry ⟨p, xs, e, h, q⟩ => op_in_seq pins s σ H x y v u Q I rx ry ⟨p, xs, e, .inl (SqL.of h), q⟩
theorem op_notInK {D : Addr} {xs : List V} (h : ∀ H : Hp, SqT X.K H D xs) (hf : xs.all flatV = true) : OpR X (compareOp .NotIn) (fun x y H Q => y = .ref D ∧ flatV x = true ∧ Q (.bl (!inV x xs)) H) :=
  fun pins s σ H x y v u Q I rx ry ⟨e, h1, q⟩ => op_notIn_seq pins s σ H x y v u Q I rx ry ⟨D, xs, e, .inr (h H), h1, hf, q⟩
theorem op_inK {D : Addr} {xs : List V} (h : ∀ H : Hp, SqT X.K H D xs) (hf : xs.all flatV = true) : OpR X (compareOp .In) (fun x y H Q => y = .ref D ∧ flatV x = true ∧ Q (.bl (inV x xs)) H) :=
  fun pins s σ H x y v u Q I rx ry ⟨e, h1, q⟩ => op_in_seq pins s σ H x y v u Q I rx ry ⟨D, xs, e, .inr (h H), h1, hf, q⟩
/-- the same, said of the value -/
def RepOk (v : V) : Prop := v = .non ∨ ∃ i : Int, v = .int i ∧ i.natAbs.log2 < 1920
def repT : V → Str
  | .int i => toString i
  | _ => "None"
theorem call_repr_v : CallR X (.builtin "repr") (fun xs H Q => ∃ v : V, xs = [v] ∧ RepOk v ∧ Q (.str (repT v)) H) := by
  intro pins s σ H xs us Q I r h
  obtain ⟨v, rfl, hv, q⟩ := h
  rcases hv with rfl | ⟨i, rfl, hi⟩
  · exact call_repr_io pins s σ H _ us Q I r (.inr ⟨rfl, q⟩)
  · exact call_repr_io pins s σ H _ us Q I r (.inl ⟨i, rfl, hi, q⟩)
/-- the sum of a tuple of ints -/
def rSumT (K : PySem.W.Frag) : List V → Hp → VK → Prop := fun vs H Q => ∃ (a : Addr) (ns : List Int), vs = [V.ref a] ∧ SqT K H a (ns.map V.int) ∧ Q (.int ns.sum) H
theorem cr_sumT (hc : X.calm = true) : CallR X (.builtin "sum") (rSumT X.K) := by
  intro pins s σ H vs us Q I r h
  obtain ⟨a, ns, rfl, hs, q⟩ := h
  obtain ⟨its, rv, ht, _⟩ := I.tuple hs
  rw [Vals.ref1 r]
  have hi := rv.ints
  obtain ⟨xs, hx⟩ := hi.allInts.items
  have ht' : s.heap.IsTuple a its.toArray := ht
  have hn : numsOf its.toArray.toList = ns := by rw [show its.toArray.toList = its from rfl, hi.numsOf]
  rw [hx] at ht' hn
  rw [nums_intItems] at hn
  refine PySem.W.ktm_sumG (I.ok.hd hc) ht' fun h' tk t' hk => ?_
  rw [preSum_eq, List.take_of_length_le (by simp), hn]
  exact ⟨.int _, H, I.kept hk, ⟨_, rfl⟩, q⟩
end
section
variable {X : Cx}
/-- for NAME in zip(e, e2) of two lists: the pair that came first, T0, has to stay -/
def tForZN (K : PySem.W.Frag) (ta : TA) (g : TG) (tb : TS) : TS := fun D σ H => ta σ H fun vs H1 => ∃ a b xs ys, vs = [.ref a, .ref b] ∧ SqL K H1 a xs ∧ SqL K H1 b ys ∧ Stop (∀ T0 : Addr, H1 T0 = none → ∃ W : Nat → Nat → L2.St → Hp → Prop, (∃ m, W 0 m σ H1) ∧ ∀ i m σ H, W i m σ H →
  (0 < i → ∃ u, H T0 = some u) ∧ (((Itz K a b).stop i H ∧ D.nx σ H) ∨ ((Itz K a b).go i H ∧ ∃ N : L2.St → Hp → Prop, (∀ σ' H', N σ' H' → ∃ m', m' < m ∧ W (i + 1) m' σ' H') ∧ ∀ x H', (Itz K a b).yld i H x H' → (i = 0 → x = .ref T0) → g x σ H' fun σ2 H2 => tb { D with nx := N, ct := N, bk := D.nx } σ2 H2)))
/-- the objects of the iterator at turn i -/
def ZnAt (a b z TI TO i1 i2 T0 : Addr) (i : Nat) (h : Heap) : Prop := IsPair h TI (.ref i1) (.ref i2) ∧ (∃ x y, IsPair h TO x y) ∧ h.IsListIter i1 a i ∧ h.IsListIter i2 b i ∧ ((i = 0 ∧ IsZip h z TI TO .none) ∨ (0 < i ∧ ∃ f, PySem.IsZipHeld h z TI TO T0 f))
theorem ZnAt.objs {a b z TI TO i1 i2 T0 : Addr} {i : Nat} {h : Heap} (st : ZnAt a b z TI TO i1 i2 T0 i h) : ∀ c ∈ [z, TI, TO, i1, i2], ∃ o, h.get? c = some o ∧ ∀ v, o.data ≠ .cell v := fun c hc => by
  obtain ⟨hTI, ⟨x, y, hTO⟩, ⟨o1, e1, _, d1⟩, ⟨o2, e2, _, d2⟩, hz⟩ := st
  have hz' : ∃ o, h.get? z = some o ∧ ∀ v, o.data ≠ .cell v := by
    rcases hz with ⟨_, hz⟩ | ⟨_, f, hz⟩
    · exact ⟨_, hz, fun v q => nomatch q⟩
    · exact ⟨_, hz, fun v q => nomatch q⟩
  have e' : c = z ∨ c = TI ∨ c = TO ∨ c = i1 ∨ c = i2 := by simpa using hc
  rcases e' with q | q | q | q | q
  · rw [q]; exact hz'
  · rw [q]; exact ⟨_, hTI, fun v q => nomatch q⟩
  · rw [q]; exact ⟨_, hTO, fun v q => nomatch q⟩
  · rw [q]; exact ⟨o1, e1, fun v q => by rw [d1] at q; cases q⟩
  · rw [q]; exact ⟨o2, e2, fun v q => by rw [d2] at q; cases q⟩
theorem ZnAt.keep {a b z TI TO i1 i2 T0 : Addr} {i : Nat} {h h' : Heap} (st : ZnAt a b z TI TO i1 i2 T0 i h) (k : ∀ c ∈ [z, TI, TO, i1, i2], ∀ o, h.get? c = some o → h'.get? c = some o) : ZnAt a b z TI TO i1 i2 T0 i h' := by
  obtain ⟨hTI, ⟨x, y, hTO⟩, h1, h2, hz⟩ := st
  refine ⟨k TI (by simp) _ hTI, ⟨x, y, k TO (by simp) _ hTO⟩, h1.at fun o q => k i1 (by simp) o q, h2.at fun o q => k i2 (by simp) o q, ?_⟩
  rcases hz with ⟨e, hz⟩ | ⟨e, f, hz⟩
  · exact .inl ⟨e, k z (by simp) _ hz⟩
  · exact .inr ⟨e, f, k z (by simp) _ hz⟩
/-- the next pair -/
theorem zn_item {a b z TI TO i1 i2 T0 : Addr} (D : ZipApart z TI TO i1 i2 a b) {x : Str} {px : Pos} {E : Value → Shared → Prop} {i : Nat} {pins : List (Addr × Obj)} {s : Shared} {σ : L2.St} {H : Hp} (I : Inv X pins σ H s)
    (hf : ∀ c ∈ [z, TI, TO, i1, i2], FpOk X pins H c) (st : ZnAt a b z TI TO i1 i2 T0 i s.heap) (hs : i = 0 → s.heap.objs.size = T0) (hT : 0 < i → ∃ u, H T0 = some u) (hg : (Itz X.K a b).go i H) :
    wpAny (model X.prog X.w) X.A (pyNext (.ref z)) (fun r s1 => ∃ u, r = some u ∧ wpAny (model X.prog X.w) X.A (letOwnedTupleGo (.Name x px) (.ref z) u) (fun _ s2 => ∃ v H', Inv X pins σ H' s2 ∧ RelV v u ∧ ((Itz X.K a b).yld i H v H' ∧ (i = 0 → v = .ref T0)) ∧ ZnAt a b z TI TO i1 i2 T0 (i + 1) s2.heap ∧ ∀ c ∈ [z, TI, TO, i1, i2], H' c = none) E s1) E s := by
  obtain ⟨hTI, ⟨x0, y0, hTO⟩, h1, h2, hz⟩ := st
  obtain ⟨xs, ys, vx, vy, hqx, hqy, hx, hy⟩ := hg
  obtain ⟨its, rv, p, _⟩ := I.list hqx
  obtain ⟨its2, rv2, p2, _⟩ := I.list hqy
  obtain ⟨u, hu, ru⟩ := rv.get hx
  obtain ⟨u2, hu2, ru2⟩ := rv2.get hy
  have lt : ∀ {c : Addr}, c ∈ [z, TI, TO, i1, i2] → c < s.heap.objs.size := fun {c} hcm => by
    obtain ⟨o, e, _⟩ := (show ZnAt a b z TI TO i1 i2 T0 i s.heap from ⟨hTI, ⟨x0, y0, hTO⟩, h1, h2, hz⟩).objs c hcm
    exact Heap.lt_size e
  have fin : ∀ h' : Heap, IsPair h' s.heap.objs.size u u2 → (∀ c o, c ∉ [z, TI, TO, i1, i2] → s.heap.get? c = some o → h'.get? c = some o) →
      Inv X pins σ (upd H s.heap.objs.size (.tup [vx, vy])) { s with heap := h' } ∧ ((Itz X.K a b).yld i H (.ref s.heap.objs.size) (upd H s.heap.objs.size (.tup [vx, vy])) ∧ ∀ c ∈ [z, TI, TO, i1, i2], upd H s.heap.objs.size (.tup [vx, vy]) c = none) := fun h' hT hk => by
    have new : ObjOk X.prog X.w (upd H s.heap.objs.size (.tup [vx, vy])) h' s.heap.objs.size (.tup [vx, vy]) :=
      ⟨by show 2 ≤ sizeLine; decide, [u, u2], .cons ru (.cons ru2 .nil), ⟨_, hT, rfl, _, rfl⟩⟩
    refine ⟨I.turnedNew (t' := s.toks) (ch := [z, TI, TO, i1, i2]) (fun c o hb q => hk c o hb q) hf (Nat.le_refl _) new, ⟨_, vx, vy, rfl, I.hok.fresh (Nat.le_refl _), rfl, fun l hl => by rw [I.list_inj hl hqx]; exact hx, fun l hl => by rw [I.list_inj hl hqy]; exact hy⟩, fun c hcm => ?_⟩
    rw [upd_ne (Nat.ne_of_lt (lt hcm))]
    exact (hf c hcm).1
  rcases hz with ⟨rfl, hz⟩ | ⟨h0, f, hz⟩
  · refine wpAny_pyNext_zip_item D hz hTI hTO h1 h2 p.isList p2.isList (x := u) (y := u2) (by simpa using hu) (by simpa using hu2) fun h' z' TO' h1' h2' hT hsz hk => ?_
    obtain ⟨I1, y1, f1⟩ := fin h' hT fun c o hb q => hk c o (fun q' => hb (by simp [q'])) (fun q' => hb (by simp [q'])) (fun q' => hb (by simp [q'])) (fun q' => hb (by simp [q'])) q
    refine ⟨_, rfl, wpAny_pure ⟨.ref s.heap.objs.size, _, I1, rfl, ⟨y1, fun _ => by rw [hs rfl]⟩, ⟨hk _ _ D.TIz D.TITO D.TIi1 D.TIi2 hTI, ⟨_, _, TO'⟩, h1', h2', .inr ⟨Nat.succ_pos _, false, ?_⟩⟩, f1⟩⟩
    rw [← hs rfl]
    exact z'
  · obtain ⟨o0, ho0⟩ := hT h0
    obtain ⟨oT, hoT⟩ := objOk_get (I.hok T0 o0 ho0)
    refine PySem.wpAny_pyNext_zip_item_held D hz hoT hTI h1 h2 p.isList p2.isList (x := u) (y := u2) (by simpa using hu) (by simpa using hu2) fun h' z' h1' h2' hT hsz hk => ?_
    obtain ⟨I1, y1, f1⟩ := fin h' hT fun c o hb q => hk c o (fun q' => hb (by simp [q'])) (fun q' => hb (by simp [q'])) (fun q' => hb (by simp [q'])) q
    exact ⟨_, rfl, wpAny_pure ⟨.ref s.heap.objs.size, _, I1, rfl, ⟨y1, fun e => absurd e (by omega)⟩, ⟨hk _ _ D.TIz D.TIi1 D.TIi2 hTI, ⟨_, _, hk _ _ D.TOz D.TOi1 D.TOi2 hTO⟩, h1', h2', .inr ⟨Nat.succ_pos _, true, z'⟩⟩, f1⟩⟩
theorem zn_done {a b z TI TO i1 i2 T0 : Addr} (D : ZipApart z TI TO i1 i2 a b) {E : Value → Shared → Prop} {i : Nat} {pins : List (Addr × Obj)} {s : Shared} {σ : L2.St} {H : Hp} (hc : X.calm = true) (I : Inv X pins σ H s)
    (hf : ∀ c ∈ [z, TI, TO, i1, i2], FpOk X pins H c) (st : ZnAt a b z TI TO i1 i2 T0 i s.heap) (hT : 0 < i → ∃ u, H T0 = some u) (hg : (Itz X.K a b).stop i H) :
    wpAny (model X.prog X.w) X.A (pyNext (.ref z)) (fun r s1 => r = none ∧ Inv X pins σ H s1) E s := by
  obtain ⟨hTI, ⟨x0, y0, hTO⟩, h1, h2, hz⟩ := st
  obtain ⟨xs, ys, hqx, hqy, hend⟩ := hg
  obtain ⟨its, rv, p, _⟩ := I.list hqx
  obtain ⟨its2, rv2, p2, _⟩ := I.list hqy
  have l1 := rv.length
  have l2 := rv2.length
  have he : its.toArray[i]? = none ∨ its2.toArray[i]? = none := by
    rcases hend with q | q
    · exact .inl (by simp; omega)
    · exact .inr (by simp; omega)
  rcases hz with ⟨rfl, hz⟩ | ⟨h0, f, hz⟩
  · exact wpAny_pyNext_zip_end (I.ok.hd hc) D hz hTI hTO h1 h2 p.isList p2.isList he fun h' hk => ⟨rfl, I.turnedL (t' := s.toks) (ch := [z, TI, TO, i1, i2]) (fun c o hb q =>
      hk c o (fun q' => hb (by simp [q'])) (fun q' => hb (by simp [q'])) (fun q' => hb (by simp [q'])) (fun q' => hb (by simp [q'])) q) hf⟩
  · obtain ⟨o0, ho0⟩ := hT h0
    obtain ⟨oT, hoT⟩ := objOk_get (I.hok T0 o0 ho0)
    exact PySem.wpAny_pyNext_zip_end_held (I.ok.hd hc) D hz hoT hTI h1 h2 p.isList p2.isList he fun h' hk => ⟨rfl, I.turnedL (t' := s.toks) (ch := [z, TI, TO, i1, i2]) (fun c o hb q =>
      hk c o (fun q' => hb (by simp [q'])) (fun q' => hb (by simp [q'])) (fun q' => hb (by simp [q'])) q) hf⟩
theorem ps_forZN {x : Str} {px p pos cpos : Pos} {e e2 : Expr} {ta : TA} {g : TG} {tb : TS} {body : List Stmt} (hp : PassesOwn (model X.prog X.w) X.A X.env X.xe) (hc : X.calm = true) (hgl : Gl X "zip") (hm : X.mg "zip" = none) (ha : PA X [e, e2] ta)
    (hg : PG X (.Name x px) g) (hb : PSs X body tb)
    (hs : starEach [e, e2] X.env = (false, eval e X.env) :: starEach [e2] X.env := by rfl) (hpl : (backTo cpos (starEach [e2] X.env)).any (·.1) = false := by rfl)
    (hfs : ∀ x, foldedSetIterable (.Call (.Name "zip" p) [e, e2] [] cpos) X.env x = pure x := by intro _; rfl) : PS X (.For (.Name x px) (.Call (.Name "zip" p) [e, e2] [] cpos) body [] pos) (tForZN X.K ta g tb) := by
  refine ⟨fun pins s σ H D I h => ?_⟩
  refine wpAny_For ?_ hfs
  refine Call_ (ld_blt I hgl hm PyProof.Rows.boot_zip (PyProof.Rows.callWith_type1 (thn (ha.run cpos pins s σ H _ I h) fun us s1 ⟨vs, H1, I1, r1, q1⟩ => ?_) hs hpl))
  obtain ⟨a, b, xs, ys, ex, hqx, hqy, q⟩ := q1
  subst ex
  cases r1 with
  | cons r rr =>
    cases rr with
    | cons r' rr =>
      cases rr
      cases r
      cases r'
      obtain ⟨its, rv, p1, _⟩ := I1.list hqx
      obtain ⟨its2, rv2, p2, _⟩ := I1.list hqy
      have la : a < s1.heap.objs.size := p1.lt
      have lb : b < s1.heap.objs.size := p2.lt
      refine call_zip_2 p1.isList p2.isList fun h' hz hTI hTO h1 h2 hsz hk => wpAny_pyIter_zip hz ?_
      have I2 : Inv X pins σ H1 { s1 with heap := h' } := I1.kept (t' := s1.toks) hk
      obtain ⟨T0, hT0⟩ : ∃ T0, T0 = h'.objs.size := ⟨_, rfl⟩
      obtain ⟨W, ⟨m0, w0⟩, turn⟩ := q.h T0 (I2.hok.fresh (by rw [hT0]; exact Nat.le_refl _))
      have D := PySem.W.ktu_apart s1.heap.objs.size a b la lb
      obtain ⟨fp, hfp⟩ : ∃ fp, fp = [s1.heap.objs.size + 4, s1.heap.objs.size + 2, s1.heap.objs.size + 3, s1.heap.objs.size, s1.heap.objs.size + 1] := ⟨_, rfl⟩
      have f2 : ∀ c ∈ fp, FpOk X pins H1 c := fun c hcm => by
        rw [hfp] at hcm
        have e' : c = s1.heap.objs.size + 4 ∨ c = s1.heap.objs.size + 2 ∨ c = s1.heap.objs.size + 3 ∨ c = s1.heap.objs.size ∨ c = s1.heap.objs.size + 1 := by simpa using hcm
        have hle : s1.heap.objs.size ≤ c := by
          rcases e' with z | z | z | z | z
          · rw [z]; exact Nat.le_add_right _ _
          · rw [z]; exact Nat.le_add_right _ _
          · rw [z]; exact Nat.le_add_right _ _
          · rw [z]; exact Nat.le_refl _
          · rw [z]; exact Nat.le_add_right _ _
        exact I1.fpOk hle (I1.hok.fresh hle)
      have stat : ∀ {H' : Hp}, (∀ c ∈ fp, H' c = none) → ∀ c ∈ fp, FpOk X pins H' c := fun hn c hb => ⟨hn c hb, (f2 c hb).2⟩
      refine codeAny_forLoop_any (fun n s' => ∃ i σ' H', Inv X pins σ' H' s' ∧ ZnAt a b (s1.heap.objs.size + 4) (s1.heap.objs.size + 2) (s1.heap.objs.size + 3) s1.heap.objs.size (s1.heap.objs.size + 1) T0 i s'.heap ∧ (∀ c ∈ fp, H' c = none) ∧ W i n σ' H' ∧ (i = 0 → s'.heap.objs.size = T0)) ?_ m0
        ⟨0, σ, H1, I2, ⟨hTI, ⟨_, _, hTO⟩, h1, h2, .inl ⟨rfl, hz⟩⟩, fun c hb => (f2 c hb).1, w0, fun _ => hT0.symm⟩
      rintro n s3 ⟨i, σ3, H3, I3, st3, fr3, w3, hs0⟩
      obtain ⟨alive, tw⟩ := turn i n σ3 H3 w3
      rcases tw with ⟨stop, qn⟩ | ⟨go, N, hN, step⟩
      · refine wpAny_passesOwn hp (thn (zn_done D hc I3 (hfp ▸ stat fr3) st3 alive stop) fun r s4 ⟨hr, I4⟩ => ?_)
        subst hr
        exact wpAny_execs_nil ⟨σ3, H3, I4, qn⟩
      · refine wpAny_passesOwn hp (thn (zn_item (x := x) (px := px) D I3 (hfp ▸ stat fr3) st3 hs0 alive go) fun r s4 ⟨u, hr, h4⟩ => ?_)
        subst hr
        refine wpAny_passesOwn hp (thn h4 fun _ s5 ⟨v, H5, I5, r5, ⟨y5, y6⟩, st5, fr5⟩ => ?_)
        rw [← hfp] at fr5
        have ob5 := hfp ▸ st5.objs
        have I5' := I5.pinned (stat fr5) ob5
        refine wpAny_passesOwn hp (thn (hg.run _ s5 σ3 H5 v u _ I5' r5 (step v H5 y5 y6)) fun _ s6 ⟨σ6, H6, I6, q6⟩ => ?_)
        refine wpAny_passesOwn hp (thn (hb.run _ s6 σ6 H6 _ I6 q6) fun f s7 q7 => ?_)
        have again : ∀ {σ7 : L2.St} {H7 : Hp}, Inv X (pins ++ pinsAt fp s5.heap) σ7 H7 s7 → N σ7 H7 → ∃ m, m < n ∧ ∃ i σ' H', Inv X pins σ' H' s7 ∧ ZnAt a b (s1.heap.objs.size + 4) (s1.heap.objs.size + 2) (s1.heap.objs.size + 3) s1.heap.objs.size (s1.heap.objs.size + 1) T0 i s7.heap ∧ (∀ c ∈ fp, H' c = none) ∧ W i m σ' H' ∧ (i = 0 → s7.heap.objs.size = T0) := fun {σ7 H7} I7 n7 => by
          obtain ⟨m', hm, w7⟩ := hN σ7 H7 n7
          refine ⟨m', hm, i + 1, σ7, H7, I7.unpinned, st5.keep (hfp ▸ fun c hb o e => (I7.pin (c, o) (List.mem_append_right _ (List.mem_append_right _ (mem_pinsAt hb e)))).1), fun c hb => ?_, w7, fun z => absurd z (Nat.succ_ne_zero _)⟩
          obtain ⟨o, e, d⟩ := ob5 c hb
          exact (I7.pin (c, o) (List.mem_append_right _ (List.mem_append_right _ (mem_pinsAt hb e)))).2.1
        cases f with
        | next => obtain ⟨σ7, H7, I7, n7⟩ := q7; exact again I7 n7
        | cont => obtain ⟨σ7, H7, I7, n7⟩ := q7; exact again I7 n7
        | brk => obtain ⟨σ7, H7, I7, q7⟩ := q7; exact ⟨σ7, H7, I7.unpinned, q7⟩
        | ret v => obtain ⟨x7, σ7, H7, I7, r7, q7⟩ := q7; exact ⟨x7, σ7, H7, I7.unpinned, r7, q7⟩
/-- lists of one length that stay -/
theorem for_zipN {K : PySem.W.Frag} {a b : Addr} {xs ys : List V} {g : TG} {tb : TS} {D : L2.Ends} {σ : L2.St} {H : Hp} (hl : xs.length = ys.length) (Pv : Addr → Nat → L2.St → Hp → Prop) (h0 : ∀ T0, H T0 = none → Pv T0 0 σ H)
    (ha : ∀ T0 i σ H, i ≤ xs.length → Pv T0 i σ H → SqL K H a xs ∧ SqL K H b ys ∧ (0 < i → ∃ u, H T0 = some u))
    (hs : ∀ T0 i x y T σ H, xs[i]? = some x → ys[i]? = some y → Pv T0 i σ H → H T = none → (i = 0 → T = T0) → g (.ref T) σ (upd H T (.tup [x, y])) fun σ2 H2 => tb { D with nx := Pv T0 (i + 1), ct := Pv T0 (i + 1), bk := D.nx } σ2 H2) (hd : ∀ T0 σ H, Pv T0 xs.length σ H → D.nx σ H) :
    ∀ T0 : Addr, H T0 = none → ∃ W : Nat → Nat → L2.St → Hp → Prop, (∃ m, W 0 m σ H) ∧ ∀ i m σ H, W i m σ H →
      (0 < i → ∃ u, H T0 = some u) ∧ (((Itz K a b).stop i H ∧ D.nx σ H) ∨ ((Itz K a b).go i H ∧ ∃ N : L2.St → Hp → Prop, (∀ σ' H', N σ' H' → ∃ m', m' < m ∧ W (i + 1) m' σ' H') ∧ ∀ x H', (Itz K a b).yld i H x H' → (i = 0 → x = .ref T0) → g x σ H' fun σ2 H2 => tb { D with nx := N, ct := N, bk := D.nx } σ2 H2)) := by
  intro T0 hT0
  refine ⟨fun i m σ H => m = xs.length - i ∧ i ≤ xs.length ∧ Pv T0 i σ H, ⟨xs.length, by simp, Nat.zero_le _, h0 T0 hT0⟩, ?_⟩
  rintro i m σ H ⟨rfl, hi, p⟩
  obtain ⟨q1, q2, q3⟩ := ha T0 i σ H hi p
  refine ⟨q3, ?_⟩
  by_cases hlt : i < xs.length
  · refine .inr ⟨⟨xs, ys, xs[i], ys[i], q1, q2, by simp [hlt], by simp [hlt, ← hl]⟩, Pv T0 (i + 1), fun σ' H' p' => ⟨xs.length - (i + 1), by omega, rfl, hlt, p'⟩, fun x H' y z => ?_⟩
    obtain ⟨T, x', y', rfl, hT, rfl, hx, hy⟩ := y
    exact hs T0 i x' y' T σ H (hx xs q1) (hy ys q2) p hT (fun e => by have := z e; injection this)
  · have e : i = xs.length := by omega
    subst e
    exact .inl ⟨⟨xs, ys, q1, q2, .inl (Nat.le_refl _)⟩, hd T0 σ H p⟩
end
section
variable {X : Cx} {CX : CXT} {k : Nat} {f : Addr} {fd : FuncData} {ps ks : List Str} {sp : Sp} {E : L2.St → XK} {x : Str} {p pos : Pos} {kws : List Keyword} {tk : TA} {g : List Value → List Value → List Value} {gV : List V → List V → List V}
theorem run_fnkS {pins : List (Addr × Obj)} {σ : L2.St} {H : Hp} {s : Shared} {Q : VK} {us ws : List Value} {vs zs : List V} (F : FnOk X.prog X.w X.K X.mg X.base CX k f fd ps sp) (hr : Room k X.A) (hb : KBinds X.K fd ps ks g gV) (hx : PassesAt CX X σ (E σ))
    (I : Inv X pins σ H s) (r : Vals vs us) (rz : Vals zs ws) (h : sp (gV vs zs) H Q (E σ)) : wpAny (model X.prog X.w) X.A (call (.ref f) us (ks.zip ws)) (EP X pins σ Q) X.xe s := by
  have r2 := hb.rel r rz
  have hl : (g us ws).length = ps.length := by rw [← r2.length]; exact F.len _ _ _ _ h
  refine wpAny_call (codeAny_mono (F.run X.A X.stack s H ⟨us, ks.zip ws⟩ (g us ws) (gV vs zs) Q (E σ) hr I.env0 (hb.to s us ws I.kIn hl) r2 h) fun r s' hq => ?_)
  cases r with
  | error e => exact hx pins H s e s' I hq
  | ok fl =>
    cases fl with
    | ret u => exact I.after hq
    | next => exact False.elim hq
    | brk => exact False.elim hq
    | cont => exact False.elim hq
def tCallKS (sp : Sp) (gV : List V → List V → List V) (E : L2.St → XK) (tk : TA) : TE := fun σ H Q => tk σ H fun zs H2 => sp (gV [] zs) H2 Q (E σ)
/-- f(k=e, ..) that may raise, within a try -/
theorem pe_callKS (F : FnOk X.prog X.w X.K X.mg X.base CX k f fd ps sp) (hr : Room k X.A) (hg : Gl X x) (hm : X.mg x = some (.ref f)) (hk : PySem.W.keepIn X.K (.ref f) = true) (hb : KBinds X.K fd ps ks g gV) (hx : ∀ σ, PassesAt CX X σ (E σ))
    (hkw : PK X kws tk) (hall : (backToKw pos (keywordEach kws X.env)).all (·.1.isSome) = true := by rfl) (hks : (backToKw pos (keywordEach kws X.env)).filterMap (·.1) = ks := by rfl)
    (hdb : (x == ("__debug__" : Str)) = false := by decide)
    (hpl : ((backTo pos (starEach [] X.env)).any (·.1) || (backToKw pos (keywordEach kws X.env)).any (·.1.isNone)) = false := by rfl) :
    PE X (.Call (.Name x p) [] kws pos) (tCallKS sp gV E tk) := by
  refine ⟨fun pins s σ H Q I h => ?_⟩
  refine wpAny_Call_Name_kw (ld_glob I hg hm ?_ hdb)
  refine PySem.W.callWith_KW0 (h₀ := X.base) I.ok.mod.kin hk hall ?_ hpl
  refine thn (hkw.run pos pins s σ H _ I h) fun ws s2 ⟨zs, H2, I2, rz, q2⟩ => ⟨I2.kIn, ?_⟩
  rw [hks]
  exact run_fnkS F hr hb (hx σ) I2 .nil rz q2
end
end Hx

set_option Elab.async false
set_option linter.all false
set_option maxRecDepth 100000
set_option maxHeartbeats 8000000

namespace K71
open PySem PySem.Spec PyProof.Rows L2 Hx
def top (i : Nat) : Stmt := PySem.Challenge.pw_orderlycore_k71_whole_orders_by_an_own_l.main.body.getD i (.Pass ⟨0, 0, 0, 0⟩)
abbrev s_is_integer : Stmt := top 12
theorem sc_is_integer : FnScope ["value"] ["value"] (defScope s_is_integer) := ⟨rfl, rfl, rfl, by decide +kernel, rfl, by decide +kernel, by decide +kernel⟩
abbrev s_is_count : Stmt := top 13
theorem sc_is_count : FnScope ["value"] ["value"] (defScope s_is_count) := ⟨rfl, rfl, rfl, by decide +kernel, rfl, by decide +kernel, by decide +kernel⟩
abbrev s_is_between : Stmt := top 14
theorem sc_is_between : FnScope ["value", "least", "most"] ["value", "least", "most"] (defScope s_is_between) := ⟨rfl, rfl, rfl, by decide +kernel, rfl, by decide +kernel, by decide +kernel⟩
abbrev s_need_many : Stmt := top 15
theorem sc_need_many : FnScope ["value", "least", "most"] ["value", "least", "most"] (defScope s_need_many) := ⟨rfl, rfl, rfl, by decide +kernel, rfl, by decide +kernel, by decide +kernel⟩
abbrev s_need_number : Stmt := top 16
theorem sc_need_number : FnScope ["value"] ["value"] (defScope s_need_number) := ⟨rfl, rfl, rfl, by decide +kernel, rfl, by decide +kernel, by decide +kernel⟩
abbrev s_Orders_init : Stmt := inClass (top 19) 0
theorem sc_Orders_init : FnScope ["self", "many"] ["self", "many"] (defScope s_Orders_init) := ⟨rfl, rfl, rfl, by decide +kernel, rfl, by decide +kernel, by decide +kernel⟩
abbrev s_Orders_many : Stmt := inClass (top 19) 1
theorem sc_Orders_many : FnScope ["self"] ["self"] (defScope s_Orders_many) := ⟨rfl, rfl, rfl, by decide +kernel, rfl, by decide +kernel, by decide +kernel⟩
abbrev s_Orders_held : Stmt := inClass (top 19) 2
theorem sc_Orders_held : FnScope ["self"] ["self"] (defScope s_Orders_held) := ⟨rfl, rfl, rfl, by decide +kernel, rfl, by decide +kernel, by decide +kernel⟩
abbrev s_Orders_upcoming : Stmt := inClass (top 19) 3
theorem sc_Orders_upcoming : FnScope ["self"] ["self"] (defScope s_Orders_upcoming) := ⟨rfl, rfl, rfl, by decide +kernel, rfl, by decide +kernel, by decide +kernel⟩
abbrev s_Orders_numbers : Stmt := inClass (top 19) 4
theorem sc_Orders_numbers : FnScope ["self"] ["self"] (defScope s_Orders_numbers) := ⟨rfl, rfl, rfl, by decide +kernel, rfl, by decide +kernel, by decide +kernel⟩
abbrev s_Orders_oldest : Stmt := inClass (top 19) 5
theorem sc_Orders_oldest : FnScope ["self"] ["self"] (defScope s_Orders_oldest) := ⟨rfl, rfl, rfl, by decide +kernel, rfl, by decide +kernel, by decide +kernel⟩
abbrev s_Orders_entered : Stmt := inClass (top 19) 6
theorem sc_Orders_entered : FnScope ["self", "thing", "number"] ["self", "thing"] (defScope s_Orders_entered) := ⟨rfl, rfl, rfl, by decide +kernel, rfl, by decide +kernel, by decide +kernel⟩
abbrev s_Orders_thing : Stmt := inClass (top 19) 7
theorem sc_Orders_thing : FnScope ["self", "number"] ["self", "number"] (defScope s_Orders_thing) := ⟨rfl, rfl, rfl, by decide +kernel, rfl, by decide +kernel, by decide +kernel⟩
abbrev s_Orders_is_done : Stmt := inClass (top 19) 9
theorem sc_Orders_is_done : FnScope ["self", "number"] ["self", "number"] (defScope s_Orders_is_done) := ⟨rfl, rfl, rfl, by decide +kernel, rfl, by decide +kernel, by decide +kernel⟩
abbrev s_Orders_done : Stmt := inClass (top 19) 10
theorem sc_Orders_done : FnScope ["self", "number", "position"] ["self", "number"] (defScope s_Orders_done) := ⟨rfl, rfl, rfl, by decide +kernel, rfl, by decide +kernel, by decide +kernel⟩
abbrev s_Orders_left : Stmt := inClass (top 19) 11
theorem sc_Orders_left : FnScope ["self", "number"] ["self"] (defScope s_Orders_left) := ⟨rfl, rfl, rfl, by decide +kernel, rfl, by decide +kernel, by decide +kernel⟩
abbrev s_Orders_dropped : Stmt := inClass (top 19) 12
theorem sc_Orders_dropped : FnScope ["self", "number", "keep", "gone"] ["self", "number"] (defScope s_Orders_dropped) := ⟨rfl, rfl, rfl, by decide +kernel, rfl, by decide +kernel, by decide +kernel⟩
abbrev s_Orders_copy : Stmt := inClass (top 19) 13
theorem sc_Orders_copy : FnScope ["self", "made"] ["self"] (defScope s_Orders_copy) := ⟨rfl, rfl, rfl, by decide +kernel, rfl, by decide +kernel, by decide +kernel⟩
abbrev s_Orderswhere : Stmt := inClass (top 19) 15
theorem sc_Orderswhere : FnScope ["self", "number", "position"] ["self", "number"] (defScope s_Orderswhere) := ⟨rfl, rfl, rfl, by decide +kernel, rfl, by decide +kernel, by decide +kernel⟩
abbrev s_Lpot : Stmt := top 21
theorem sc_Lpot : FnScope ["_law_script", "_law_k", "_law_cell", "_law_mixed"] ["_law_script", "_law_k"] (defScope s_Lpot) := ⟨rfl, rfl, rfl, by decide +kernel, rfl, by decide +kernel, by decide +kernel⟩
abbrev s_Ldraw : Stmt := top 22
theorem sc_Ldraw : FnScope ["_law_pot_here", "_law_sides", "_law_digit"] ["_law_pot_here", "_law_sides"] (defScope s_Ldraw) := ⟨rfl, rfl, rfl, by decide +kernel, rfl, by decide +kernel, by decide +kernel⟩
abbrev s_Lpick : Stmt := top 23
theorem sc_Lpick : FnScope ["_law_pot_here", "_law_some"] ["_law_pot_here", "_law_some"] (defScope s_Lpick) := ⟨rfl, rfl, rfl, by decide +kernel, rfl, by decide +kernel, by decide +kernel⟩
abbrev s_Lseen : Stmt := top 24
theorem sc_Lseen : FnScope ["_law_orders", "_law_own", "_law_first", "_law_many", "_law_at", "_law_thing", "_law_is_done"] ["_law_orders", "_law_own", "_law_first", "_law_many"] (defScope s_Lseen) := ⟨rfl, rfl, rfl, by decide +kernel, rfl, by decide +kernel, by decide +kernel⟩
abbrev s_Ldrop : Stmt := top 25
theorem sc_Ldrop : FnScope ["_law_orders", "_law_own", "_law_first", "_law_number", "_law_told", "_law_kept", "_law_due", "_law_at", "_law_thing", "_law_is_done"] ["_law_orders", "_law_own", "_law_first", "_law_number"] (defScope s_Ldrop) := ⟨rfl, rfl, rfl, by decide +kernel, rfl, by decide +kernel, by decide +kernel⟩
abbrev s_Lright : Stmt := top 26
theorem sc_Lright : FnScope ["_law_pot_here", "_law_many", "_law_orders", "_law_own", "_law_first", "_law_made", "_law_entered", "_law_left", "_law_aside", "_law_turn", "_law_way", "_law_at", "_law_number", "_law_kept", "_law_thing", "_law_is_done"] ["_law_pot_here"] (defScope s_Lright) := ⟨rfl, rfl, rfl, by decide +kernel, rfl, by decide +kernel, by decide +kernel⟩
abbrev s_law : Stmt := top 27
theorem sc_law : FnScope ["_law_script"] ["_law_script"] (defScope s_law) := ⟨rfl, rfl, rfl, by decide +kernel, rfl, by decide +kernel, by decide +kernel⟩
abbrev F_Orders (v0 v1 v2 v3 : V) : List (Str × V) := [("_many", v0), ("_first", v1), ("_things", v2), ("_dones", v3)]
theorem gt_Orders_many {v0 v1 v2 v3 : V} : (F_Orders v0 v1 v2 v3).lookup ("_many" : Str) = some v0 := rfl
theorem pu_Orders_many {v0 v1 v2 v3 u : V} : putF "_many" u (F_Orders v0 v1 v2 v3) = F_Orders u v1 v2 v3 := rfl
theorem pi_Orders_many {v0 : V} : putF "_many" v0 [] = ([("_many", v0)] : List (Str × V)) := rfl
theorem gt_Orders_first {v0 v1 v2 v3 : V} : (F_Orders v0 v1 v2 v3).lookup ("_first" : Str) = some v1 := rfl
theorem pu_Orders_first {v0 v1 v2 v3 u : V} : putF "_first" u (F_Orders v0 v1 v2 v3) = F_Orders v0 u v2 v3 := rfl
theorem pi_Orders_first {v0 v1 : V} : putF "_first" v1 [("_many", v0)] = ([("_many", v0), ("_first", v1)] : List (Str × V)) := rfl
theorem gt_Orders_things {v0 v1 v2 v3 : V} : (F_Orders v0 v1 v2 v3).lookup ("_things" : Str) = some v2 := rfl
theorem pu_Orders_things {v0 v1 v2 v3 u : V} : putF "_things" u (F_Orders v0 v1 v2 v3) = F_Orders v0 v1 u v3 := rfl
theorem pi_Orders_things {v0 v1 v2 : V} : putF "_things" v2 [("_many", v0), ("_first", v1)] = ([("_many", v0), ("_first", v1), ("_things", v2)] : List (Str × V)) := rfl
theorem gt_Orders_dones {v0 v1 v2 v3 : V} : (F_Orders v0 v1 v2 v3).lookup ("_dones" : Str) = some v3 := rfl
theorem pu_Orders_dones {v0 v1 v2 v3 u : V} : putF "_dones" u (F_Orders v0 v1 v2 v3) = F_Orders v0 v1 v2 u := rfl
theorem pi_Orders_dones {v0 v1 v2 v3 : V} : putF "_dones" v3 [("_many", v0), ("_first", v1), ("_things", v2)] = F_Orders v0 v1 v2 v3 := rfl
structure Txt (K : PySem.W.Frag) (mg : Str → Option Value) where
  C_Orders : Addr
  cl_Orders : Cls K C_Orders
  g_Orders : mg "Orders" = some (.ref C_Orders)
  n_Orders_many : NoAttr K C_Orders "_many"
  n_Orders_first : NoAttr K C_Orders "_first"
  n_Orders_things : NoAttr K C_Orders "_things"
  n_Orders_dones : NoAttr K C_Orders "_dones"
  f_is_integer : Addr
  fd_is_integer : FuncData
  F_is_integer : Fun K "is_integer" "is_integer" s_is_integer f_is_integer fd_is_integer
  g_is_integer : mg "is_integer" = some (.ref f_is_integer)
  b_is_integer : Binds K fd_is_integer ["value"] []
  f_is_count : Addr
  fd_is_count : FuncData
  F_is_count : Fun K "is_count" "is_count" s_is_count f_is_count fd_is_count
  g_is_count : mg "is_count" = some (.ref f_is_count)
  b_is_count : Binds K fd_is_count ["value"] []
  f_is_between : Addr
  fd_is_between : FuncData
  F_is_between : Fun K "is_between" "is_between" s_is_between f_is_between fd_is_between
  g_is_between : mg "is_between" = some (.ref f_is_between)
  b_is_between : Binds K fd_is_between ["value", "least", "most"] []
  f_need_many : Addr
  fd_need_many : FuncData
  F_need_many : Fun K "need_many" "need_many" s_need_many f_need_many fd_need_many
  g_need_many : mg "need_many" = some (.ref f_need_many)
  b_need_many : Binds K fd_need_many ["value", "least", "most"] []
  f_need_number : Addr
  fd_need_number : FuncData
  F_need_number : Fun K "need_number" "need_number" s_need_number f_need_number fd_need_number
  g_need_number : mg "need_number" = some (.ref f_need_number)
  b_need_number : Binds K fd_need_number ["value"] []
  f_Orders_init : Addr
  fd_Orders_init : FuncData
  F_Orders_init : Fun K "__init__" "Orders.__init__" s_Orders_init f_Orders_init fd_Orders_init
  b_Orders_init : Binds K fd_Orders_init ["self", "many"] []
  mk_Orders : Mk K C_Orders f_Orders_init
  f_Orders_many : Addr
  fd_Orders_many : FuncData
  F_Orders_many : Fun K "many" "Orders.many" s_Orders_many f_Orders_many fd_Orders_many
  b_Orders_many : Binds K fd_Orders_many ["self"] []
  pa_Orders_many : Addr
  p_Orders_many : PropOf K C_Orders "many" pa_Orders_many f_Orders_many
  f_Orders_held : Addr
  fd_Orders_held : FuncData
  F_Orders_held : Fun K "held" "Orders.held" s_Orders_held f_Orders_held fd_Orders_held
  b_Orders_held : Binds K fd_Orders_held ["self"] []
  pa_Orders_held : Addr
  p_Orders_held : PropOf K C_Orders "held" pa_Orders_held f_Orders_held
  f_Orders_upcoming : Addr
  fd_Orders_upcoming : FuncData
  F_Orders_upcoming : Fun K "upcoming" "Orders.upcoming" s_Orders_upcoming f_Orders_upcoming fd_Orders_upcoming
  b_Orders_upcoming : Binds K fd_Orders_upcoming ["self"] []
  pa_Orders_upcoming : Addr
  p_Orders_upcoming : PropOf K C_Orders "upcoming" pa_Orders_upcoming f_Orders_upcoming
  f_Orders_numbers : Addr
  fd_Orders_numbers : FuncData
  F_Orders_numbers : Fun K "numbers" "Orders.numbers" s_Orders_numbers f_Orders_numbers fd_Orders_numbers
  b_Orders_numbers : Binds K fd_Orders_numbers ["self"] []
  me_Orders_numbers : Meth K C_Orders "numbers" f_Orders_numbers
  f_Orders_oldest : Addr
  fd_Orders_oldest : FuncData
  F_Orders_oldest : Fun K "oldest" "Orders.oldest" s_Orders_oldest f_Orders_oldest fd_Orders_oldest
  b_Orders_oldest : Binds K fd_Orders_oldest ["self"] []
  me_Orders_oldest : Meth K C_Orders "oldest" f_Orders_oldest
  f_Orders_entered : Addr
  fd_Orders_entered : FuncData
  F_Orders_entered : Fun K "entered" "Orders.entered" s_Orders_entered f_Orders_entered fd_Orders_entered
  b_Orders_entered : Binds K fd_Orders_entered ["self", "thing"] []
  me_Orders_entered : Meth K C_Orders "entered" f_Orders_entered
  f_Orders_thing : Addr
  fd_Orders_thing : FuncData
  F_Orders_thing : Fun K "thing" "Orders.thing" s_Orders_thing f_Orders_thing fd_Orders_thing
  b_Orders_thing : Binds K fd_Orders_thing ["self", "number"] []
  me_Orders_thing : Meth K C_Orders "thing" f_Orders_thing
  f_Orders_is_done : Addr
  fd_Orders_is_done : FuncData
  F_Orders_is_done : Fun K "is_done" "Orders.is_done" s_Orders_is_done f_Orders_is_done fd_Orders_is_done
  b_Orders_is_done : Binds K fd_Orders_is_done ["self", "number"] []
  me_Orders_is_done : Meth K C_Orders "is_done" f_Orders_is_done
  f_Orders_done : Addr
  fd_Orders_done : FuncData
  F_Orders_done : Fun K "done" "Orders.done" s_Orders_done f_Orders_done fd_Orders_done
  b_Orders_done : Binds K fd_Orders_done ["self", "number"] []
  me_Orders_done : Meth K C_Orders "done" f_Orders_done
  f_Orders_left : Addr
  fd_Orders_left : FuncData
  F_Orders_left : Fun K "left" "Orders.left" s_Orders_left f_Orders_left fd_Orders_left
  b_Orders_left : Binds K fd_Orders_left ["self"] []
  me_Orders_left : Meth K C_Orders "left" f_Orders_left
  f_Orders_dropped : Addr
  fd_Orders_dropped : FuncData
  F_Orders_dropped : Fun K "dropped" "Orders.dropped" s_Orders_dropped f_Orders_dropped fd_Orders_dropped
  b_Orders_dropped : Binds K fd_Orders_dropped ["self", "number"] []
  me_Orders_dropped : Meth K C_Orders "dropped" f_Orders_dropped
  f_Orders_copy : Addr
  fd_Orders_copy : FuncData
  F_Orders_copy : Fun K "copy" "Orders.copy" s_Orders_copy f_Orders_copy fd_Orders_copy
  b_Orders_copy : Binds K fd_Orders_copy ["self"] []
  me_Orders_copy : Meth K C_Orders "copy" f_Orders_copy
  f_Orderswhere : Addr
  fd_Orderswhere : FuncData
  F_Orderswhere : Fun K "_where" "Orders._where" s_Orderswhere f_Orderswhere fd_Orderswhere
  b_Orderswhere : Binds K fd_Orderswhere ["self", "number"] []
  me_Orderswhere : Meth K C_Orders "_where" f_Orderswhere
  f_Lpot : Addr
  fd_Lpot : FuncData
  F_Lpot : Fun K "_law_pot" "_law_pot" s_Lpot f_Lpot fd_Lpot
  g_Lpot : mg "_law_pot" = some (.ref f_Lpot)
  b_Lpot : Binds K fd_Lpot ["_law_script", "_law_k"] []
  f_Ldraw : Addr
  fd_Ldraw : FuncData
  F_Ldraw : Fun K "_law_draw" "_law_draw" s_Ldraw f_Ldraw fd_Ldraw
  g_Ldraw : mg "_law_draw" = some (.ref f_Ldraw)
  b_Ldraw : Binds K fd_Ldraw ["_law_pot_here", "_law_sides"] []
  f_Lpick : Addr
  fd_Lpick : FuncData
  F_Lpick : Fun K "_law_pick" "_law_pick" s_Lpick f_Lpick fd_Lpick
  g_Lpick : mg "_law_pick" = some (.ref f_Lpick)
  b_Lpick : Binds K fd_Lpick ["_law_pot_here", "_law_some"] []
  f_Lseen : Addr
  fd_Lseen : FuncData
  F_Lseen : Fun K "_law_seen" "_law_seen" s_Lseen f_Lseen fd_Lseen
  g_Lseen : mg "_law_seen" = some (.ref f_Lseen)
  b_Lseen : Binds K fd_Lseen ["_law_orders", "_law_own", "_law_first", "_law_many"] []
  f_Ldrop : Addr
  fd_Ldrop : FuncData
  F_Ldrop : Fun K "_law_drop" "_law_drop" s_Ldrop f_Ldrop fd_Ldrop
  g_Ldrop : mg "_law_drop" = some (.ref f_Ldrop)
  b_Ldrop : Binds K fd_Ldrop ["_law_orders", "_law_own", "_law_first", "_law_number"] []
  f_Lright : Addr
  fd_Lright : FuncData
  F_Lright : Fun K "_law_right" "_law_right" s_Lright f_Lright fd_Lright
  g_Lright : mg "_law_right" = some (.ref f_Lright)
  b_Lright : Binds K fd_Lright ["_law_pot_here"] []
  f_law : Addr
  fd_law : FuncData
  F_law : Fun K "law" "law" s_law f_law fd_law
  g_law : mg "law" = some (.ref f_law)
  b_law : Binds K fd_law ["_law_script"] []
  m_abs : mg "abs" = none
  m_bool : mg "bool" = none
  m_divmod : mg "divmod" = none
  m_enumerate : mg "enumerate" = none
  m_int : mg "int" = none
  m_isinstance : mg "isinstance" = none
  m_len : mg "len" = none
  m_list : mg "list" = none
  m_max : mg "max" = none
  m_range : mg "range" = none
  m_repr : mg "repr" = none
  c__MOST_ROOMS : ∃ t, mg "_MOST_ROOMS" = some (.int 32 t)
abbrev OR := Int × Bool
def thD (r : OR) : PyData := .list [.int r.1]
def owD (r : OR) : PyData := .tuple [.list [.int r.1], .bool r.2]
def obk (C x dx t d : Addr) (m f : Int) (os : List OR) : List (Addr × Ob) := [(x, .raw (.ins C dx (F_Orders (.int m) (.int f) (.ref t) (.ref d)))), (t, .L (os.map thD)), (d, .raw (.lst (os.map fun r => .bl r.2)))]

end K71

set_option Elab.async false
set_option linter.all false
set_option maxRecDepth 100000
set_option maxHeartbeats 8000000

namespace K71
open PySem PySem.Spec PyProof.Rows L2 Hx 
local macro_rules | `(tactic| walk_at "sm") => `(tactic| repeat' (first | assumption | apply Hx.Same.upd | exact L2.Same.refl _ | apply same_trans'))
local macro_rules | `(tactic| walk_at "hp") => `(tactic| repeat' (first | assumption | exact upd_same | apply old_upd | apply same_at))
local macro_rules | `(tactic| walk_at "rd") => `(tactic| repeat' (first | rfl | apply Exists.intro | apply And.intro | refine iteT ?_ | refine iteF ?_ | exact upd_same | exact SqL.of (by assumption) | exact SqL.of upd_same | exact SqT.of upd_same | exact SqT.of (by assumption) | ((with_reducible show (_ : Int) < _); omega) | ((with_reducible show (_ : Int) ≤ _); omega) | (show (_ : Prop); assumption) | exact Or.inl ⟨_, by assumption, rfl⟩ | exact Or.inl ⟨rfl, _, SqL.of (by assumption)⟩ | exact Or.inl ⟨rfl, _, SqL.of upd_same⟩ | apply old_upd | apply Hx.SqL.new | apply tyl_new | apply Pot.new | exact same_at (by assumption) (by assumption) | exact Or.inl (SqL.of (by assumption)) | exact Or.inl (by assumption) | exact Or.inl (SqL.of upd_same) | exact size_le (Nat.le_of_ble_eq_true rfl) | exact Nat.le_of_ble_eq_true rfl | exact True.intro | exact Or.inl rfl | exact Or.inr rfl | (show (_ : Prop); omega) | (show (_ : Prop); dsimp only; omega) | exact mulw64 (by omega) (by omega) | exact mulw64 (by (try dsimp only); omega) (by (try dsimp only); omega)))
set_option hygiene false in
local macro_rules | `(tactic| walk_at "fl") => `(tactic| simp only [pu_Orders_many, pi_Orders_many, pu_Orders_first, pi_Orders_first, pu_Orders_things, pi_Orders_things, pu_Orders_dones, pi_Orders_dones] at hO)
local macro_rules | `(tactic| walk_at "mem") => `(tactic| ((repeat (first | exact List.Mem.head _ | apply List.Mem.tail | fail)); done))
local macro_rules | `(tactic| walk_at "setat") => `(tactic| ((repeat (first | (with_reducible exact At.head) | (with_reducible apply At.tail) | (with_reducible apply At.app) | fail)); done))
set_option hygiene false in
local macro_rules | `(tactic| walk_at "dv") => `(tactic| ((repeat' (first | exact Dv.nil | exact Dv.of (by walk_at "mem") | exact Dv.ints _ | exact Dv1.of (by walk_at "mem") | exact Dv1.int _ | exact Dv1.non | exact Dv1.bl _ | exact Dv1.str _ | (with_reducible apply Dv.cons) | refine Dv1.tup (by walk_at "mem") ?_ | refine Dv1.lst (by walk_at "mem") ?_ | (with_reducible apply Dv.app) | fail)); done))
local macro_rules | `(tactic| walk_at "ft") => `(tactic| (first | (with_reducible exact Ft.refl) | ((with_reducible apply Ft.toL); focus walk_at "dv") | ((with_reducible apply Ft.toS); focus assumption) | (with_reducible apply Ft.lst) | (with_reducible apply Ft.Le) | (with_reducible apply Ft.dK) | (with_reducible apply Ft.De) | (with_reducible apply Ft.ins) | (with_reducible apply Ft.toL) | (with_reducible apply Ft.toS) | (with_reducible apply Ft.toD) | fail))
local macro_rules | `(tactic| walk_at "sbL") => `(tactic| repeat' (first | (with_reducible exact Sb.refl _) | exact Sb.nil | (with_reducible apply Sb.cons) | (with_reducible apply Sb.app) | (with_reducible exact Pk.one) | (with_reducible exact Pk.here) | (with_reducible exact Pk.all) | (with_reducible apply Pk.skip1) | (with_reducible apply Pk.skipB) | (with_reducible apply Sb.skip) | (with_reducible apply Sb.skipB) | ((with_reducible show Ft _ _ _ _); walk_at "ft") | ((with_reducible show (_ : List _) = _); (first | rfl | (simp [List.map_set, List.map_append]; done) | fail)) | fail))
local macro_rules | `(tactic| walk_at "sb") => `(tactic| ((walk_at "sbL"); done))
local macro_rules | `(tactic| walk_at "ps") => `(tactic| ((repeat' (first | (with_reducible exact Ps.refl) | exact Ps.nil | (with_reducible apply Ps.cons) | exact List.Mem.head _ | apply List.Mem.tail | (with_reducible apply Ps.skip) | fail)); done))
set_option hygiene false in
local macro_rules | `(tactic| walk_at "at") => `(tactic| first | assumption | exact Own.raw hO (by walk_at "mem") | exact Own.ptup hO (by walk_at "mem") | exact Own.plst hO (by walk_at "mem") | fail)
set_option hygiene false in
local macro_rules | `(tactic| walk_at "st") => `(tactic| (rw [upd_mkO hO]; generalize e : updX _ _ _ = H1; (first | ((apply Own.cset hO e); (focus walk_at "setat"); (try clear hO e); intro hO) | ((apply Own.cnewT hO e); (focus assumption); (try clear hO e); intro hO) | ((apply Own.cnew hO e); (focus assumption); (try clear hO e); intro hO) | fail)))
set_option hygiene false in
local macro_rules | `(tactic| walk_at "mk") => `(tactic| (intro p1 p2 f1 f2 f3; rw [upd_mkO hO]; generalize e : upd (updX _ _ _) _ _ = H1; apply Own.cmake hO f1 f2 f3 e; (try clear hO e); intro hO))
set_option hygiene false in
local macro_rules | `(tactic| walk_at "own") => `(tactic| (first | ((apply Own.sub hO); (focus walk_at "sb"); (focus walk_at "ps")) | ((apply Own.sub hF); (focus walk_at "sb"); (focus walk_at "ps")) | fail))
set_option hygiene false in
local macro_rules | `(tactic| walk_at "fin") => `(tactic| (refine Own.sub hO ?_ (by walk_at "ps"); walk_at "sbL"))
set_option hygiene false in
local macro_rules | `(tactic| walk_at "g1") => `(tactic| (first
 | ((with_reducible show (_ : Option HO) = _); walk_at "at")
 | ((with_reducible show (_ : Int) < _); omega) | ((with_reducible show (_ : Int) ≤ _); omega)
 | ((with_reducible show (_ : Nat) < _); (first | assumption | exact Nat.le_of_ble_eq_true rfl | exact size_lt (Nat.le_of_ble_eq_true rfl) | omega | (simp; done) | (simp; omega) | fail))
 | ((with_reducible show (_ : Nat) ≤ _); (first | assumption | exact Nat.le_of_ble_eq_true rfl | exact size_le (Nat.le_of_ble_eq_true rfl) | omega | (simp; done) | (simp; omega) | fail))
 | ((with_reducible show Own _ _ _ _); (first | walk_at "own" | (walk_at "st"; walk_at "own") | fail))
 | ((with_reducible show SqL _ _ _ _); (first | assumption | exact SqL.of (by walk_at "at") | fail))
 | ((with_reducible show SqT _ _ _ _); (first | assumption | exact hO.psq (by walk_at "mem") | exact SqT.of (by walk_at "at") | fail))
  | ((with_reducible show Cls _ _); exact Txt.cl_Orders T) | ((with_reducible show NoAttr _ _ _); exact Txt.n_Orders_many T) | (with_reducible exact gt_Orders_many) | ((with_reducible show NoAttr _ _ _); exact Txt.n_Orders_first T) | (with_reducible exact gt_Orders_first) | ((with_reducible show NoAttr _ _ _); exact Txt.n_Orders_things T) | (with_reducible exact gt_Orders_things) | ((with_reducible show NoAttr _ _ _); exact Txt.n_Orders_dones T) | (with_reducible exact gt_Orders_dones)  | ((with_reducible show V.ref _ = V.ref _); (first | rfl | fail))
 | ((with_reducible show DGet _ _ _ _); (first | exact DGet.ki (by walk_at "at") (by assumption) | exact DGet.kiF (by walk_at "at") (by assumption) | fail))
 | ((with_reducible show DPut _ _ _ _ _); exact DPut.ki (by walk_at "at") (by assumption))
 | ((with_reducible show Rd _ _ _); (first | exact Or.inl (by walk_at "at") | exact Or.inr ⟨_, by walk_at "at"⟩ | fail))
 | ((with_reducible show (∃ _ : List (Key × V), _) ∨ _); refine Or.inl ⟨_, by walk_at "at", ?_⟩)
 | ((with_reducible show Dv _ _ _ _); focus walk_at "dv") | ((with_reducible show Dv1 _ _ _ _); focus walk_at "dv")
 | ((with_reducible show IsD _ _); exact Or.inl ⟨_, Or.inl (by walk_at "at")⟩)
 | ((with_reducible show V.int _ = kV _); exact kV_int)
 | ((with_reducible show Option.isSome _ = true); (first | exact isSome_ofV (by assumption) | assumption | fail))
 | ((with_reducible show SqL _ _ _ _ ∨ SqT _ _ _ _); (first | exact Or.inl (by assumption) | exact Or.inr (by assumption) | exact Or.inl (SqL.of (by walk_at "at")) | exact Or.inr (SqT.of (by walk_at "at")) | fail))
 | ((with_reducible show Dp _ _ _ _); (first | assumption | exact hO.dpL (by walk_at "mem") | exact .lst (SqL.of (by walk_at "at")) (hO.all (by walk_at "dv")) | exact hO.one (by walk_at "dv") | fail))
 | ((with_reducible show TruV _ _ _ _); (first | exact Or.inl ⟨_, SqL.of (by walk_at "at"), rfl⟩ | exact Or.inr (Or.inr ⟨_, by walk_at "at", rfl⟩) | exact Or.inr (Or.inl ⟨_, SqT.of (by walk_at "at"), rfl⟩) | fail))
 | ((with_reducible show RgOk _ _); exact RgOk.of_le (by omega) (by omega) (by omega) (by omega))
 | rfl | (with_reducible assumption) | apply And.intro | apply Exists.intro | refine iteT ?_ | refine iteF ?_
 | (walk_at "st"; (try walk_at "fl"))
 | ((with_reducible show ∀ _ : Addr, _ = none → _); (fail_if_success (with_reducible show ∀ _ : Addr, _ = none → ∃ _ : Nat → Nat → Hp → Prop, _)); intro p fp; walk_at "st")
 | (refine Or.inl ⟨SqL.of (by walk_at "at"), ?_⟩) | (refine Or.inr ⟨SqT.of (by walk_at "at"), ?_⟩) | exact Or.inl ⟨_, by walk_at "at", rfl⟩ | exact Or.inl ⟨rfl, _, SqL.of (by walk_at "at")⟩ | exact tyl_of (by walk_at "at") | exact Or.inl (SqL.of (by walk_at "at")) | exact Or.inr (SqT.of (by walk_at "at")) | exact Or.inl (by walk_at "at") | exact size_le (Nat.le_of_ble_eq_true rfl) | exact Nat.le_of_ble_eq_true rfl | exact True.intro | exact Or.inl rfl | exact Or.inr rfl | (show (_ : Prop); assumption) | (show (_ : Prop); omega) | (show (_ : Prop); dsimp only; omega) | exact mulw64 (by omega) (by omega) | exact mulw64 (by (try dsimp only); omega) (by (try dsimp only); omega) | fail))
local macro_rules | `(tactic| walk_at "go") => `(tactic| repeat walk_at "g1")

section
variable {P : Program} {w : World} {K : PySem.W.Frag} {mg : Str → Option Value} {base : Heap}
def sp_is_integer : Sp := fun vs H Q _ => ∃ i : Int, vs = [.int i] ∧ Q (.bl true) H
theorem ok_is_integer (T : Txt K mg) : FnOk P w K mg base CX0 1 T.f_is_integer T.fd_is_integer ["value"] (sp_is_integer) := by
  refine T.F_is_integer.ok sc_is_integer (fun vs H Q E h => ?_) (fun cdv A outer s H vs Q E hr h => ?_)
  · obtain ⟨i, rfl, k⟩ := h; rfl
  · obtain ⟨i, rfl, k⟩ := h
    refine ⟨_, (pss_one (ps_ret (pe_and (pe_callB call_isi (by rfl) T.m_isinstance (by decide +kernel) (pa_cons (pv 0) (pa_cons (pe_bltn (v := .ty "int") (u := .type "int") (by rfl) T.m_int (by decide +kernel) rfl) pa_nil))) (pe_one (pe_not (pe_callB call_isi (by rfl) T.m_isinstance (by decide +kernel) (pa_cons (pv 0) (pa_cons (pe_bltn (v := .ty "bool") (u := .type "bool") (by rfl) T.m_bool (by decide +kernel) rfl) pa_nil)))))))), ?_⟩
    clear hr
    refine ⟨_, rfl, _, _, _, _, true, rfl, .ty _, .base (.int _), kit_ty (by decide +kernel), true, rfl, iteT ?_⟩
    refine ⟨_, rfl, _, _, _, _, false, rfl, .ty _, .base (.int _), kit_ty (by decide +kernel), false, rfl, k⟩
def sp_is_count : Sp := fun vs H Q _ => ∃ i : Int, vs = [.int i] ∧ 0 ≤ i ∧ Q (.bl true) H
theorem ok_is_count (T : Txt K mg) : FnOk P w K mg base CX0 2 T.f_is_count T.fd_is_count ["value"] (sp_is_count) := by
  have G_is_integer := ok_is_integer (P := P) (w := w) (base := base) T
  refine T.F_is_count.ok sc_is_count (fun vs H Q E h => ?_) (fun cdv A outer s H vs Q E hr h => ?_)
  · obtain ⟨i, rfl, hi, k⟩ := h; rfl
  · obtain ⟨i, rfl, hi, k⟩ := h
    refine ⟨_, (pss_one (ps_ret (pe_and (pe_call G_is_integer (hr.mono (by decide)) rfl T.g_is_integer T.F_is_integer.kp T.b_is_integer .nil pass0 (pa_cons (pv 0) pa_nil)) (pe_one (pe_cmpR op_ge (pv 0) pe_int (nomark _)))))), ?_⟩
    clear G_is_integer
    clear hr
    walk_at "rd"
    exact qbl k (decide_eq_true (by omega))
def sp_is_between : Sp := fun vs H Q _ => ∃ i a b : Int, vs = [.int i, .int a, .int b] ∧ Q (.bl (decide (a ≤ i ∧ i ≤ b))) H
theorem ok_is_between (T : Txt K mg) : FnOk P w K mg base CX0 2 T.f_is_between T.fd_is_between ["value", "least", "most"] (sp_is_between) := by
  have G_is_integer := ok_is_integer (P := P) (w := w) (base := base) T
  refine T.F_is_between.ok sc_is_between (fun vs H Q E h => ?_) (fun cdv A outer s H vs Q E hr h => ?_)
  · obtain ⟨i, a, b, rfl, k⟩ := h; rfl
  · obtain ⟨i, a, b, rfl, k⟩ := h
    refine ⟨_, (pss_one (ps_ret (pe_and (pe_call G_is_integer (hr.mono (by decide)) rfl T.g_is_integer T.F_is_integer.kp T.b_is_integer .nil pass0 (pa_cons (pv 0) pa_nil)) (pe_one (pe_chain op_le op_le (pv 1) (pv 0) (pv 2)))))), ?_⟩
    clear G_is_integer
    clear hr
    walk_at "rd"
    refine iteD (fun h1 => ?_) (fun h1 => ?_)
    · walk_at "rd"; exact qbl k (by simp [h1])
    · exact qbl k (by simp [h1])
def sp_need_many : Sp := fun vs H Q _ => ∃ i a b : Int, vs = [.int i, .int a, .int b] ∧ a ≤ i ∧ i ≤ b ∧ Q .non H
theorem ok_need_many (T : Txt K mg) : FnOk P w K mg base CX0 3 T.f_need_many T.fd_need_many ["value", "least", "most"] (sp_need_many) := by
  have G_is_between := ok_is_between (P := P) (w := w) (base := base) T
  refine T.F_need_many.ok sc_need_many (fun vs H Q E h => ?_) (fun cdv A outer s H vs Q E hr h => ?_)
  · obtain ⟨i, a, b, rfl, h1, h2, k⟩ := h; rfl
  · obtain ⟨i, a, b, rfl, h1, h2, k⟩ := h
    refine ⟨_, (pss_one (ps_if (pt_not (pt_val (pe_call G_is_between (hr.mono (by decide)) rfl T.g_is_between T.F_is_between.kp T.b_is_between .nil pass0 (pa_cons (pv 0) (pa_cons (pv 1) (pa_cons (pv 2) pa_nil))))))
          (pss_one ps_never)
          pss_nil)), ?_⟩
    clear G_is_between
    clear hr
    walk_at "rd"
    rw [decide_eq_true (show a ≤ i ∧ i ≤ b from ⟨h1, h2⟩)]
    walk_at "rd"
def sp_need_number : Sp := fun vs H Q _ => ∃ i : Int, vs = [.int i] ∧ 0 ≤ i ∧ Q .non H
theorem ok_need_number (T : Txt K mg) : FnOk P w K mg base CX0 3 T.f_need_number T.fd_need_number ["value"] (sp_need_number) := by
  have G_is_count := ok_is_count (P := P) (w := w) (base := base) T
  refine T.F_need_number.ok sc_need_number (fun vs H Q E h => ?_) (fun cdv A outer s H vs Q E hr h => ?_)
  · obtain ⟨i, rfl, hi, k⟩ := h; rfl
  · obtain ⟨i, rfl, hi, k⟩ := h
    refine ⟨_, (pss_one (ps_if (pt_not (pt_val (pe_call G_is_count (hr.mono (by decide)) rfl T.g_is_count T.F_is_count.kp T.b_is_count .nil pass0 (pa_cons (pv 0) pa_nil))))
          (pss_one ps_never)
          pss_nil)), ?_⟩
    clear G_is_count
    clear hr
    walk_at "rd"
end
end K71

set_option Elab.async false
set_option linter.all false
set_option maxRecDepth 100000
set_option maxHeartbeats 8000000

namespace K71
open PySem PySem.Spec PyProof.Rows L2 Hx 
local macro_rules | `(tactic| walk_at "sm") => `(tactic| repeat' (first | assumption | apply Hx.Same.upd | exact L2.Same.refl _ | apply same_trans'))
local macro_rules | `(tactic| walk_at "hp") => `(tactic| repeat' (first | assumption | exact upd_same | apply old_upd | apply same_at))
local macro_rules | `(tactic| walk_at "rd") => `(tactic| repeat' (first | rfl | apply Exists.intro | apply And.intro | refine iteT ?_ | refine iteF ?_ | exact upd_same | exact SqL.of (by assumption) | exact SqL.of upd_same | exact SqT.of upd_same | exact SqT.of (by assumption) | ((with_reducible show (_ : Int) < _); omega) | ((with_reducible show (_ : Int) ≤ _); omega) | (show (_ : Prop); assumption) | exact Or.inl ⟨_, by assumption, rfl⟩ | exact Or.inl ⟨rfl, _, SqL.of (by assumption)⟩ | exact Or.inl ⟨rfl, _, SqL.of upd_same⟩ | apply old_upd | apply Hx.SqL.new | apply tyl_new | apply Pot.new | exact same_at (by assumption) (by assumption) | exact Or.inl (SqL.of (by assumption)) | exact Or.inl (by assumption) | exact Or.inl (SqL.of upd_same) | exact size_le (Nat.le_of_ble_eq_true rfl) | exact Nat.le_of_ble_eq_true rfl | exact True.intro | exact Or.inl rfl | exact Or.inr rfl | (show (_ : Prop); omega) | (show (_ : Prop); dsimp only; omega) | exact mulw64 (by omega) (by omega) | exact mulw64 (by (try dsimp only); omega) (by (try dsimp only); omega)))
set_option hygiene false in
local macro_rules | `(tactic| walk_at "fl") => `(tactic| simp only [pu_Orders_many, pi_Orders_many, pu_Orders_first, pi_Orders_first, pu_Orders_things, pi_Orders_things, pu_Orders_dones, pi_Orders_dones] at hO)
local macro_rules | `(tactic| walk_at "mem") => `(tactic| ((repeat (first | exact List.Mem.head _ | apply List.Mem.tail | fail)); done))
local macro_rules | `(tactic| walk_at "setat") => `(tactic| ((repeat (first | (with_reducible exact At.head) | (with_reducible apply At.tail) | (with_reducible apply At.app) | fail)); done))
set_option hygiene false in
local macro_rules | `(tactic| walk_at "dv") => `(tactic| ((repeat' (first | exact Dv.nil | exact Dv.of (by walk_at "mem") | exact Dv.ints _ | exact Dv1.of (by walk_at "mem") | exact Dv1.int _ | exact Dv1.non | exact Dv1.bl _ | exact Dv1.str _ | (with_reducible apply Dv.cons) | refine Dv1.tup (by walk_at "mem") ?_ | refine Dv1.lst (by walk_at "mem") ?_ | (with_reducible apply Dv.app) | fail)); done))
local macro_rules | `(tactic| walk_at "ft") => `(tactic| (first | (with_reducible exact Ft.refl) | ((with_reducible apply Ft.toL); focus walk_at "dv") | ((with_reducible apply Ft.toS); focus assumption) | (with_reducible apply Ft.lst) | (with_reducible apply Ft.Le) | (with_reducible apply Ft.dK) | (with_reducible apply Ft.De) | (with_reducible apply Ft.ins) | (with_reducible apply Ft.toL) | (with_reducible apply Ft.toS) | (with_reducible apply Ft.toD) | fail))
local macro_rules | `(tactic| walk_at "sbL") => `(tactic| repeat' (first | (with_reducible exact Sb.refl _) | exact Sb.nil | (with_reducible apply Sb.cons) | (with_reducible apply Sb.app) | (with_reducible exact Pk.one) | (with_reducible exact Pk.here) | (with_reducible exact Pk.all) | (with_reducible apply Pk.skip1) | (with_reducible apply Pk.skipB) | (with_reducible apply Sb.skip) | (with_reducible apply Sb.skipB) | ((with_reducible show Ft _ _ _ _); walk_at "ft") | ((with_reducible show (_ : List _) = _); (first | rfl | (simp [List.map_set, List.map_append]; done) | fail)) | fail))
local macro_rules | `(tactic| walk_at "sb") => `(tactic| ((walk_at "sbL"); done))
local macro_rules | `(tactic| walk_at "ps") => `(tactic| ((repeat' (first | (with_reducible exact Ps.refl) | exact Ps.nil | (with_reducible apply Ps.cons) | exact List.Mem.head _ | apply List.Mem.tail | (with_reducible apply Ps.skip) | fail)); done))
set_option hygiene false in
local macro_rules | `(tactic| walk_at "at") => `(tactic| first | assumption | exact Own.raw hO (by walk_at "mem") | exact Own.ptup hO (by walk_at "mem") | exact Own.plst hO (by walk_at "mem") | fail)
set_option hygiene false in
local macro_rules | `(tactic| walk_at "st") => `(tactic| (rw [upd_mkO hO]; generalize e : updX _ _ _ = H1; (first | ((apply Own.cset hO e); (focus walk_at "setat"); (try clear hO e); intro hO) | ((apply Own.cnewT hO e); (focus assumption); (try clear hO e); intro hO) | ((apply Own.cnew hO e); (focus assumption); (try clear hO e); intro hO) | fail)))
set_option hygiene false in
local macro_rules | `(tactic| walk_at "mk") => `(tactic| (intro p1 p2 f1 f2 f3; rw [upd_mkO hO]; generalize e : upd (updX _ _ _) _ _ = H1; apply Own.cmake hO f1 f2 f3 e; (try clear hO e); intro hO))
set_option hygiene false in
local macro_rules | `(tactic| walk_at "own") => `(tactic| (first | ((apply Own.sub hO); (focus walk_at "sb"); (focus walk_at "ps")) | ((apply Own.sub hF); (focus walk_at "sb"); (focus walk_at "ps")) | fail))
set_option hygiene false in
local macro_rules | `(tactic| walk_at "fin") => `(tactic| (refine Own.sub hO ?_ (by walk_at "ps"); walk_at "sbL"))
set_option hygiene false in
local macro_rules | `(tactic| walk_at "g1") => `(tactic| (first
 | ((with_reducible show (_ : Option HO) = _); walk_at "at")
 | ((with_reducible show (_ : Int) < _); omega) | ((with_reducible show (_ : Int) ≤ _); omega)
 | ((with_reducible show (_ : Nat) < _); (first | assumption | exact Nat.le_of_ble_eq_true rfl | exact size_lt (Nat.le_of_ble_eq_true rfl) | omega | (simp; done) | (simp; omega) | fail))
 | ((with_reducible show (_ : Nat) ≤ _); (first | assumption | exact Nat.le_of_ble_eq_true rfl | exact size_le (Nat.le_of_ble_eq_true rfl) | omega | (simp; done) | (simp; omega) | fail))
 | ((with_reducible show Own _ _ _ _); (first | walk_at "own" | (walk_at "st"; walk_at "own") | fail))
 | ((with_reducible show SqL _ _ _ _); (first | assumption | exact SqL.of (by walk_at "at") | fail))
 | ((with_reducible show SqT _ _ _ _); (first | assumption | exact hO.psq (by walk_at "mem") | exact SqT.of (by walk_at "at") | fail))
  | ((with_reducible show Cls _ _); exact Txt.cl_Orders T) | ((with_reducible show NoAttr _ _ _); exact Txt.n_Orders_many T) | (with_reducible exact gt_Orders_many) | ((with_reducible show NoAttr _ _ _); exact Txt.n_Orders_first T) | (with_reducible exact gt_Orders_first) | ((with_reducible show NoAttr _ _ _); exact Txt.n_Orders_things T) | (with_reducible exact gt_Orders_things) | ((with_reducible show NoAttr _ _ _); exact Txt.n_Orders_dones T) | (with_reducible exact gt_Orders_dones)  | ((with_reducible show V.ref _ = V.ref _); (first | rfl | fail))
 | ((with_reducible show DGet _ _ _ _); (first | exact DGet.ki (by walk_at "at") (by assumption) | exact DGet.kiF (by walk_at "at") (by assumption) | fail))
 | ((with_reducible show DPut _ _ _ _ _); exact DPut.ki (by walk_at "at") (by assumption))
 | ((with_reducible show Rd _ _ _); (first | exact Or.inl (by walk_at "at") | exact Or.inr ⟨_, by walk_at "at"⟩ | fail))
 | ((with_reducible show (∃ _ : List (Key × V), _) ∨ _); refine Or.inl ⟨_, by walk_at "at", ?_⟩)
 | ((with_reducible show Dv _ _ _ _); focus walk_at "dv") | ((with_reducible show Dv1 _ _ _ _); focus walk_at "dv")
 | ((with_reducible show IsD _ _); exact Or.inl ⟨_, Or.inl (by walk_at "at")⟩)
 | ((with_reducible show V.int _ = kV _); exact kV_int)
 | ((with_reducible show Option.isSome _ = true); (first | exact isSome_ofV (by assumption) | assumption | fail))
 | ((with_reducible show SqL _ _ _ _ ∨ SqT _ _ _ _); (first | exact Or.inl (by assumption) | exact Or.inr (by assumption) | exact Or.inl (SqL.of (by walk_at "at")) | exact Or.inr (SqT.of (by walk_at "at")) | fail))
 | ((with_reducible show Dp _ _ _ _); (first | assumption | exact hO.dpL (by walk_at "mem") | exact .lst (SqL.of (by walk_at "at")) (hO.all (by walk_at "dv")) | exact hO.one (by walk_at "dv") | fail))
 | ((with_reducible show TruV _ _ _ _); (first | exact Or.inl ⟨_, SqL.of (by walk_at "at"), rfl⟩ | exact Or.inr (Or.inr ⟨_, by walk_at "at", rfl⟩) | exact Or.inr (Or.inl ⟨_, SqT.of (by walk_at "at"), rfl⟩) | fail))
 | ((with_reducible show RgOk _ _); exact RgOk.of_le (by omega) (by omega) (by omega) (by omega))
 | rfl | (with_reducible assumption) | apply And.intro | apply Exists.intro | refine iteT ?_ | refine iteF ?_
 | (walk_at "st"; (try walk_at "fl"))
 | ((with_reducible show ∀ _ : Addr, _ = none → _); (fail_if_success (with_reducible show ∀ _ : Addr, _ = none → ∃ _ : Nat → Nat → Hp → Prop, _)); intro p fp; walk_at "st")
 | (refine Or.inl ⟨SqL.of (by walk_at "at"), ?_⟩) | (refine Or.inr ⟨SqT.of (by walk_at "at"), ?_⟩) | exact Or.inl ⟨_, by walk_at "at", rfl⟩ | exact Or.inl ⟨rfl, _, SqL.of (by walk_at "at")⟩ | exact tyl_of (by walk_at "at") | exact Or.inl (SqL.of (by walk_at "at")) | exact Or.inr (SqT.of (by walk_at "at")) | exact Or.inl (by walk_at "at") | exact size_le (Nat.le_of_ble_eq_true rfl) | exact Nat.le_of_ble_eq_true rfl | exact True.intro | exact Or.inl rfl | exact Or.inr rfl | (show (_ : Prop); assumption) | (show (_ : Prop); omega) | (show (_ : Prop); dsimp only; omega) | exact mulw64 (by omega) (by omega) | exact mulw64 (by (try dsimp only); omega) (by (try dsimp only); omega) | fail))
local macro_rules | `(tactic| walk_at "go") => `(tactic| repeat walk_at "g1")

section
variable {P : Program} {w : World} {K : PySem.W.Frag} {mg : Str → Option Value} {base : Heap}
def sp_init (K : PySem.W.Frag) (C : Addr) : Sp := fun vs H Q _ => ∃ (x dx : Addr) (m : Int) (R : List (Addr × Ob)) (P : List Pf), vs = [.ref x, .int m] ∧ Own K H ((x, .raw (.ins C dx [])) :: R) P ∧ (1 ≤ m ∧ m ≤ 32) ∧
  ∀ (t d : Addr) (H' : Hp), Own K H' (obk C x dx t d m 0 [] ++ R) P → Q .non H'
theorem ok_Orders_init (T : Txt K mg) : FnOk P w K mg base CX0 4 T.f_Orders_init T.fd_Orders_init ["self", "many"] (sp_init K T.C_Orders) := by
  have G_need_many := ok_need_many (P := P) (w := w) (base := base) T
  refine T.F_Orders_init.ok sc_Orders_init (fun vs H Q E h => ?_) (fun cdv A outer s H vs Q E hr h => ?_)
  · obtain ⟨x, dx, m, R, P, rfl, hO, ⟨hm1, hm2⟩, k⟩ := h; rfl
  · obtain ⟨x, dx, m, R, P, rfl, hO, ⟨hm1, hm2⟩, k⟩ := h
    refine ⟨_, (pss_cons (ps_expr (pe_call G_need_many (hr.mono (by decide)) rfl T.g_need_many T.F_need_many.kp T.b_need_many .nil pass0 (pa_cons (pv 1) (pa_cons pe_int (pa_cons (pe_gint rfl T.c__MOST_ROOMS) pa_nil)))))
        (pss_cons (ps_fld (pv 0) (pv 1) rfl)
        (pss_cons (ps_fld (pv 0) pe_int rfl)
        (pss_cons (ps_fld (pv 0) (pe_lst pa_nil) rfl)
        (pss_one (ps_fld (pv 0) (pe_lst pa_nil) rfl)))))), ?_⟩
    clear G_need_many
    clear hr
    simp only [obk, List.cons_append, List.nil_append] at k
    walk_at "go"
    apply k
    walk_at "fin"
    all_goals exact Dv.nil
def sp_many (K : PySem.W.Frag) (C : Addr) : Sp := fun vs H Q _ => ∃ (x dx t d : Addr) (m f : Int) (os : List OR) (R : List (Addr × Ob)) (P : List Pf), vs = [.ref x] ∧ Own K H (obk C x dx t d m f os ++ R) P ∧ Q (.int m) H
theorem ok_Orders_many (T : Txt K mg) : FnOk P w K mg base CX0 1 T.f_Orders_many T.fd_Orders_many ["self"] (sp_many K T.C_Orders) := by
  refine T.F_Orders_many.ok sc_Orders_many (fun vs H Q E h => ?_) (fun cdv A outer s H vs Q E hr h => ?_)
  · obtain ⟨x, dx, t, d, m, f, os, R, P, rfl, hO, k⟩ := h; rfl
  · obtain ⟨x, dx, t, d, m, f, os, R, P, rfl, hO, k⟩ := h
    refine ⟨_, (pss_one (ps_ret (pe_fld (pv 0) rfl))), ?_⟩
    clear hr
    simp only [obk, List.cons_append, List.nil_append] at hO
    walk_at "go"
def sp_held (K : PySem.W.Frag) (C : Addr) : Sp := fun vs H Q _ => ∃ (x dx t d : Addr) (m f : Int) (os : List OR) (R : List (Addr × Ob)) (P : List Pf), vs = [.ref x] ∧ Own K H (obk C x dx t d m f os ++ R) P ∧ Q (.int (os.length : Nat)) H
theorem ok_Orders_held (T : Txt K mg) : FnOk P w K mg base CX0 1 T.f_Orders_held T.fd_Orders_held ["self"] (sp_held K T.C_Orders) := by
  refine T.F_Orders_held.ok sc_Orders_held (fun vs H Q E h => ?_) (fun cdv A outer s H vs Q E hr h => ?_)
  · obtain ⟨x, dx, t, d, m, f, os, R, P, rfl, hO, k⟩ := h; rfl
  · obtain ⟨x, dx, t, d, m, f, os, R, P, rfl, hO, k⟩ := h
    refine ⟨_, (pss_one (ps_ret (pe_callB call_len_list (by rfl) T.m_len (by decide +kernel) (pa_cons (pe_fld (pv 0) rfl) pa_nil)))), ?_⟩
    clear hr
    simp only [obk, List.cons_append, List.nil_append] at hO
    obtain ⟨us, o1⟩ := hO.openL (a := t) (by walk_at "mem")
    replace hO := o1 _ (by walk_at "setat")
    have hl := (hO.pdp List.mem_cons_self).len
    rw [List.length_map] at hl
    rw [← hl] at k
    walk_at "go"
def sp_upc (K : PySem.W.Frag) (C : Addr) : Sp := fun vs H Q _ => ∃ (x dx t d : Addr) (m f : Int) (os : List OR) (R : List (Addr × Ob)) (P : List Pf), vs = [.ref x] ∧ Own K H (obk C x dx t d m f os ++ R) P ∧ Q (.int (f + (os.length : Nat))) H
theorem ok_Orders_upcoming (T : Txt K mg) : FnOk P w K mg base CX0 1 T.f_Orders_upcoming T.fd_Orders_upcoming ["self"] (sp_upc K T.C_Orders) := by
  refine T.F_Orders_upcoming.ok sc_Orders_upcoming (fun vs H Q E h => ?_) (fun cdv A outer s H vs Q E hr h => ?_)
  · obtain ⟨x, dx, t, d, m, f, os, R, P, rfl, hO, k⟩ := h; rfl
  · obtain ⟨x, dx, t, d, m, f, os, R, P, rfl, hO, k⟩ := h
    refine ⟨_, (pss_one (ps_ret (pe_op op_add (pe_fld (pv 0) rfl) (pe_callB call_len_list (by rfl) T.m_len (by decide +kernel) (pa_cons (pe_fld (pv 0) rfl) pa_nil))))), ?_⟩
    clear hr
    simp only [obk, List.cons_append, List.nil_append] at hO
    obtain ⟨us, o1⟩ := hO.openL (a := t) (by walk_at "mem")
    replace hO := o1 _ (by walk_at "setat")
    have hl := (hO.pdp List.mem_cons_self).len
    rw [List.length_map] at hl
    rw [← hl] at k
    walk_at "go"
def sp_nums (K : PySem.W.Frag) (C : Addr) : Sp := fun vs H Q _ => ∃ (x dx t d : Addr) (m f : Int) (os : List OR) (R : List (Addr × Ob)) (P : List Pf), vs = [.ref x] ∧ Own K H (obk C x dx t d m f os ++ R) P ∧ (0 ≤ f ∧ f ≤ 1000) ∧ os.length ≤ 100 ∧
  ∀ (p : Addr) (H' : Hp), Own K H' ((p, .raw (.lst (((List.range os.length).map fun i => f + (i : Nat)).map V.int))) :: (obk C x dx t d m f os ++ R)) P → Q (.ref p) H'
theorem ok_Orders_numbers (T : Txt K mg) : FnOk P w K mg base CX0 3 T.f_Orders_numbers T.fd_Orders_numbers ["self"] (sp_nums K T.C_Orders) := by
  have G_Orders_upcoming := ok_Orders_upcoming (P := P) (w := w) (base := base) T
  refine T.F_Orders_numbers.ok sc_Orders_numbers (fun vs H Q E h => ?_) (fun cdv A outer s H vs Q E hr h => ?_)
  · obtain ⟨x, dx, t, d, m, f, os, R, P, rfl, hO, hf, hl1, k⟩ := h; rfl
  · obtain ⟨x, dx, t, d, m, f, os, R, P, rfl, hO, hf, hl1, k⟩ := h
    refine ⟨_, (pss_one (ps_ret (pe_listRg rfl rfl T.m_list (prg_2 rfl T.m_range (pe_fld (pv 0) rfl) (pe_prop (pv 0) T.cl_Orders T.p_Orders_upcoming G_Orders_upcoming (hr.mono (by decide)) T.b_Orders_upcoming .nil pass0 rfl))))), ?_⟩
    clear G_Orders_upcoming
    clear hr
    have hF := hO
    simp only [obk, List.cons_append, List.nil_append] at hO k
    have hrg : RgOk f (f + (os.length : Nat)) := RgOk.of_le hf.1 (by omega) (by omega) (by omega)
    walk_at "go"
    have e : rgV f (f + (os.length : Nat)) = ((List.range os.length).map fun i => f + (i : Nat)).map V.int := by
      rw [rgV, show (f + (os.length : Nat) - f).toNat = os.length from by omega, List.map_map]; rfl
    rw [e] at hO
    exact k p _ hO
def sp_old (K : PySem.W.Frag) (C : Addr) : Sp := fun vs H Q _ => ∃ (x dx t d : Addr) (m f : Int) (os : List OR) (R : List (Addr × Ob)) (P : List Pf), vs = [.ref x] ∧ Own K H (obk C x dx t d m f os ++ R) P ∧ Q (if os = [] then .non else .int f) H
theorem ok_Orders_oldest (T : Txt K mg) : FnOk P w K mg base CX0 1 T.f_Orders_oldest T.fd_Orders_oldest ["self"] (sp_old K T.C_Orders) := by
  refine T.F_Orders_oldest.ok sc_Orders_oldest (fun vs H Q E h => ?_) (fun cdv A outer s H vs Q E hr h => ?_)
  · obtain ⟨x, dx, t, d, m, f, os, R, P, rfl, hO, k⟩ := h; rfl
  · obtain ⟨x, dx, t, d, m, f, os, R, P, rfl, hO, k⟩ := h
    refine ⟨_, (pss_one (ps_ret (pe_ifExp (pt_truth (pe_fld (pv 0) rfl) (by intro _; rfl)) (pe_fld (pv 0) rfl) pe_non))), ?_⟩
    clear hr
    simp only [obk, List.cons_append, List.nil_append] at hO
    obtain ⟨us, o1⟩ := hO.openL (a := t) (by walk_at "mem")
    replace hO := o1 _ (by walk_at "setat")
    have hl := (hO.pdp List.mem_cons_self).len
    rw [List.length_map] at hl
    cases os with
    | nil =>
      obtain rfl : us = [] := List.eq_nil_of_length_eq_zero hl
      walk_at "go"
    | cons r os =>
      rw [if_neg (by simp)] at k
      cases us with
      | nil => simp at hl
      | cons u us => walk_at "go"
theorem iteT' {c : Prop} [Decidable c] {α β : Prop} (h : c) (k : α) : if decide c = true then α else β := by rw [if_pos (decide_eq_true h)]; exact k
def sp_where (K : PySem.W.Frag) (C : Addr) : Sp := fun vs H Q _ => ∃ (x dx t d : Addr) (m f n : Int) (os : List OR) (R : List (Addr × Ob)) (P : List Pf), vs = [.ref x, .int n] ∧ Own K H (obk C x dx t d m f os ++ R) P ∧ 0 ≤ n ∧ f ≤ n ∧ n < f + (os.length : Nat) ∧ Q (.int (n - f)) H
theorem ok_Orderswhere (T : Txt K mg) : FnOk P w K mg base CX0 4 T.f_Orderswhere T.fd_Orderswhere ["self", "number"] (sp_where K T.C_Orders) := by
  have G_need_number := ok_need_number (P := P) (w := w) (base := base) T
  refine T.F_Orderswhere.ok sc_Orderswhere (fun vs H Q E h => ?_) (fun cdv A outer s H vs Q E hr h => ?_)
  · obtain ⟨x, dx, t, d, m, f, n, os, R, P, rfl, hO, hn0, hn1, hn2, k⟩ := h; rfl
  · obtain ⟨x, dx, t, d, m, f, n, os, R, P, rfl, hO, hn0, hn1, hn2, k⟩ := h
    refine ⟨_, (pss_cons (ps_expr (pe_call G_need_number (hr.mono (by decide)) rfl T.g_need_number T.F_need_number.kp T.b_need_number .nil pass0 (pa_cons (pv 1) pa_nil)))
        (pss_cons (ps_set (i := 2) sc_Orderswhere.nd rfl (Or.inl rfl) (pe_op op_sub (pv 1) (pe_fld (pv 0) rfl)))
        (pss_cons (ps_if (pt_not (pt_chain op_le op_lt pe_int (pv 2) (pe_callB call_len_list (by rfl) T.m_len (by decide +kernel) (pa_cons (pe_fld (pv 0) rfl) pa_nil))))
          (pss_one ps_never)
          pss_nil)
        (pss_one (ps_ret (pv 2)))))), ?_⟩
    clear G_need_number
    clear hr
    simp only [obk, List.cons_append, List.nil_append] at hO
    obtain ⟨us, o1⟩ := hO.openL (a := t) (by walk_at "mem")
    replace hO := o1 _ (by walk_at "setat")
    have hl := (hO.pdp List.mem_cons_self).len
    rw [List.length_map] at hl
    walk_at "go"
    refine iteT' (by omega) ?_
    walk_at "go"
    rw [decide_eq_true (show n - f < (us.length : Int) by omega)]
    walk_at "go"
end
end K71

set_option Elab.async false
set_option linter.all false
set_option maxRecDepth 100000
set_option maxHeartbeats 8000000

namespace K71
open PySem PySem.Spec PyProof.Rows L2 Hx 
local macro_rules | `(tactic| walk_at "sm") => `(tactic| repeat' (first | assumption | apply Hx.Same.upd | exact L2.Same.refl _ | apply same_trans'))
local macro_rules | `(tactic| walk_at "hp") => `(tactic| repeat' (first | assumption | exact upd_same | apply old_upd | apply same_at))
local macro_rules | `(tactic| walk_at "rd") => `(tactic| repeat' (first | rfl | apply Exists.intro | apply And.intro | refine iteT ?_ | refine iteF ?_ | exact upd_same | exact SqL.of (by assumption) | exact SqL.of upd_same | exact SqT.of upd_same | exact SqT.of (by assumption) | ((with_reducible show (_ : Int) < _); omega) | ((with_reducible show (_ : Int) ≤ _); omega) | (show (_ : Prop); assumption) | exact Or.inl ⟨_, by assumption, rfl⟩ | exact Or.inl ⟨rfl, _, SqL.of (by assumption)⟩ | exact Or.inl ⟨rfl, _, SqL.of upd_same⟩ | apply old_upd | apply Hx.SqL.new | apply tyl_new | apply Pot.new | exact same_at (by assumption) (by assumption) | exact Or.inl (SqL.of (by assumption)) | exact Or.inl (by assumption) | exact Or.inl (SqL.of upd_same) | exact size_le (Nat.le_of_ble_eq_true rfl) | exact Nat.le_of_ble_eq_true rfl | exact True.intro | exact Or.inl rfl | exact Or.inr rfl | (show (_ : Prop); omega) | (show (_ : Prop); dsimp only; omega) | exact mulw64 (by omega) (by omega) | exact mulw64 (by (try dsimp only); omega) (by (try dsimp only); omega)))
set_option hygiene false in
local macro_rules | `(tactic| walk_at "fl") => `(tactic| simp only [pu_Orders_many, pi_Orders_many, pu_Orders_first, pi_Orders_first, pu_Orders_things, pi_Orders_things, pu_Orders_dones, pi_Orders_dones] at hO)
local macro_rules | `(tactic| walk_at "mem") => `(tactic| ((repeat (first | exact List.Mem.head _ | apply List.Mem.tail | fail)); done))
local macro_rules | `(tactic| walk_at "setat") => `(tactic| ((repeat (first | (with_reducible exact At.head) | (with_reducible apply At.tail) | (with_reducible apply At.app) | fail)); done))
set_option hygiene false in
local macro_rules | `(tactic| walk_at "dv") => `(tactic| ((repeat' (first | exact Dv.nil | exact Dv.of (by walk_at "mem") | exact Dv.ints _ | exact Dv1.of (by walk_at "mem") | exact Dv1.int _ | exact Dv1.non | exact Dv1.bl _ | exact Dv1.str _ | (with_reducible apply Dv.cons) | refine Dv1.tup (by walk_at "mem") ?_ | refine Dv1.lst (by walk_at "mem") ?_ | (with_reducible apply Dv.app) | fail)); done))
local macro_rules | `(tactic| walk_at "ft") => `(tactic| (first | (with_reducible exact Ft.refl) | ((with_reducible apply Ft.toL); focus walk_at "dv") | ((with_reducible apply Ft.toS); focus assumption) | (with_reducible apply Ft.lst) | (with_reducible apply Ft.Le) | (with_reducible apply Ft.dK) | (with_reducible apply Ft.De) | (with_reducible apply Ft.ins) | (with_reducible apply Ft.toL) | (with_reducible apply Ft.toS) | (with_reducible apply Ft.toD) | fail))
local macro_rules | `(tactic| walk_at "sbL") => `(tactic| repeat' (first | (with_reducible exact Sb.refl _) | exact Sb.nil | (with_reducible apply Sb.cons) | (with_reducible apply Sb.app) | (with_reducible exact Pk.one) | (with_reducible exact Pk.here) | (with_reducible exact Pk.all) | (with_reducible apply Pk.skip1) | (with_reducible apply Pk.skipB) | (with_reducible apply Sb.skip) | (with_reducible apply Sb.skipB) | ((with_reducible show Ft _ _ _ _); walk_at "ft") | ((with_reducible show (_ : List _) = _); (first | rfl | (simp [List.map_set, List.map_append]; done) | fail)) | fail))
local macro_rules | `(tactic| walk_at "sb") => `(tactic| ((walk_at "sbL"); done))
local macro_rules | `(tactic| walk_at "ps") => `(tactic| ((repeat' (first | (with_reducible exact Ps.refl) | exact Ps.nil | (with_reducible apply Ps.cons) | exact List.Mem.head _ | apply List.Mem.tail | (with_reducible apply Ps.skip) | fail)); done))
set_option hygiene false in
local macro_rules | `(tactic| walk_at "at") => `(tactic| first | assumption | exact Own.raw hO (by walk_at "mem") | exact Own.ptup hO (by walk_at "mem") | exact Own.plst hO (by walk_at "mem") | fail)
set_option hygiene false in
local macro_rules | `(tactic| walk_at "st") => `(tactic| (rw [upd_mkO hO]; generalize e : updX _ _ _ = H1; (first | ((apply Own.cset hO e); (focus walk_at "setat"); (try clear hO e); intro hO) | ((apply Own.cnewT hO e); (focus assumption); (try clear hO e); intro hO) | ((apply Own.cnew hO e); (focus assumption); (try clear hO e); intro hO) | fail)))
set_option hygiene false in
local macro_rules | `(tactic| walk_at "mk") => `(tactic| (intro p1 p2 f1 f2 f3; rw [upd_mkO hO]; generalize e : upd (updX _ _ _) _ _ = H1; apply Own.cmake hO f1 f2 f3 e; (try clear hO e); intro hO))
set_option hygiene false in
local macro_rules | `(tactic| walk_at "own") => `(tactic| (first | ((apply Own.sub hO); (focus walk_at "sb"); (focus walk_at "ps")) | ((apply Own.sub hF); (focus walk_at "sb"); (focus walk_at "ps")) | fail))
set_option hygiene false in
local macro_rules | `(tactic| walk_at "fin") => `(tactic| (refine Own.sub hO ?_ (by walk_at "ps"); walk_at "sbL"))
set_option hygiene false in
local macro_rules | `(tactic| walk_at "g1") => `(tactic| (first
 | ((with_reducible show (_ : Option HO) = _); walk_at "at")
 | ((with_reducible show (_ : Int) < _); omega) | ((with_reducible show (_ : Int) ≤ _); omega)
 | ((with_reducible show (_ : Nat) < _); (first | assumption | exact Nat.le_of_ble_eq_true rfl | exact size_lt (Nat.le_of_ble_eq_true rfl) | omega | (simp; done) | (simp; omega) | fail))
 | ((with_reducible show (_ : Nat) ≤ _); (first | assumption | exact Nat.le_of_ble_eq_true rfl | exact size_le (Nat.le_of_ble_eq_true rfl) | omega | (simp; done) | (simp; omega) | fail))
 | ((with_reducible show Own _ _ _ _); (first | walk_at "own" | (walk_at "st"; walk_at "own") | fail))
 | ((with_reducible show SqL _ _ _ _); (first | assumption | exact SqL.of (by walk_at "at") | fail))
 | ((with_reducible show SqT _ _ _ _); (first | assumption | exact hO.psq (by walk_at "mem") | exact SqT.of (by walk_at "at") | fail))
  | ((with_reducible show Cls _ _); exact Txt.cl_Orders T) | ((with_reducible show NoAttr _ _ _); exact Txt.n_Orders_many T) | (with_reducible exact gt_Orders_many) | ((with_reducible show NoAttr _ _ _); exact Txt.n_Orders_first T) | (with_reducible exact gt_Orders_first) | ((with_reducible show NoAttr _ _ _); exact Txt.n_Orders_things T) | (with_reducible exact gt_Orders_things) | ((with_reducible show NoAttr _ _ _); exact Txt.n_Orders_dones T) | (with_reducible exact gt_Orders_dones)  | ((with_reducible show V.ref _ = V.ref _); (first | rfl | fail))
 | ((with_reducible show DGet _ _ _ _); (first | exact DGet.ki (by walk_at "at") (by assumption) | exact DGet.kiF (by walk_at "at") (by assumption) | fail))
 | ((with_reducible show DPut _ _ _ _ _); exact DPut.ki (by walk_at "at") (by assumption))
 | ((with_reducible show Rd _ _ _); (first | exact Or.inl (by walk_at "at") | exact Or.inr ⟨_, by walk_at "at"⟩ | fail))
 | ((with_reducible show (∃ _ : List (Key × V), _) ∨ _); refine Or.inl ⟨_, by walk_at "at", ?_⟩)
 | ((with_reducible show Dv _ _ _ _); focus walk_at "dv") | ((with_reducible show Dv1 _ _ _ _); focus walk_at "dv")
 | ((with_reducible show IsD _ _); exact Or.inl ⟨_, Or.inl (by walk_at "at")⟩)
 | ((with_reducible show V.int _ = kV _); exact kV_int)
 | ((with_reducible show Option.isSome _ = true); (first | exact isSome_ofV (by assumption) | assumption | fail))
 | ((with_reducible show SqL _ _ _ _ ∨ SqT _ _ _ _); (first | exact Or.inl (by assumption) | exact Or.inr (by assumption) | exact Or.inl (SqL.of (by walk_at "at")) | exact Or.inr (SqT.of (by walk_at "at")) | fail))
 | ((with_reducible show Dp _ _ _ _); (first | assumption | exact hO.dpL (by walk_at "mem") | exact .lst (SqL.of (by walk_at "at")) (hO.all (by walk_at "dv")) | exact hO.one (by walk_at "dv") | fail))
 | ((with_reducible show TruV _ _ _ _); (first | exact Or.inl ⟨_, SqL.of (by walk_at "at"), rfl⟩ | exact Or.inr (Or.inr ⟨_, by walk_at "at", rfl⟩) | exact Or.inr (Or.inl ⟨_, SqT.of (by walk_at "at"), rfl⟩) | fail))
 | ((with_reducible show RgOk _ _); exact RgOk.of_le (by omega) (by omega) (by omega) (by omega))
 | rfl | (with_reducible assumption) | apply And.intro | apply Exists.intro | refine iteT ?_ | refine iteF ?_
 | (walk_at "st"; (try walk_at "fl"))
 | ((with_reducible show ∀ _ : Addr, _ = none → _); (fail_if_success (with_reducible show ∀ _ : Addr, _ = none → ∃ _ : Nat → Nat → Hp → Prop, _)); intro p fp; walk_at "st")
 | (refine Or.inl ⟨SqL.of (by walk_at "at"), ?_⟩) | (refine Or.inr ⟨SqT.of (by walk_at "at"), ?_⟩) | exact Or.inl ⟨_, by walk_at "at", rfl⟩ | exact Or.inl ⟨rfl, _, SqL.of (by walk_at "at")⟩ | exact tyl_of (by walk_at "at") | exact Or.inl (SqL.of (by walk_at "at")) | exact Or.inr (SqT.of (by walk_at "at")) | exact Or.inl (by walk_at "at") | exact size_le (Nat.le_of_ble_eq_true rfl) | exact Nat.le_of_ble_eq_true rfl | exact True.intro | exact Or.inl rfl | exact Or.inr rfl | (show (_ : Prop); assumption) | (show (_ : Prop); omega) | (show (_ : Prop); dsimp only; omega) | exact mulw64 (by omega) (by omega) | exact mulw64 (by (try dsimp only); omega) (by (try dsimp only); omega) | fail))
local macro_rules | `(tactic| walk_at "go") => `(tactic| repeat walk_at "g1")

section
variable {P : Program} {w : World} {K : PySem.W.Frag} {mg : Str → Option Value} {base : Heap}
theorem dv_bls {K : PySem.W.Frag} {P : List Pf} (os : List OR) : Dv K P (os.map fun r => .bl r.2) (os.map fun r => .bool r.2) := by
  induction os with
  | nil => exact Dv.nil
  | cons r os ih => exact Dv.cons (Dv1.bl _) ih
def sp_enter (K : PySem.W.Frag) (C : Addr) : Sp := fun vs H Q _ => ∃ (x dx t d : Addr) (m f q : Int) (v : V) (os : List OR) (R : List (Addr × Ob)) (P : List Pf), vs = [.ref x, v] ∧ Own K H (obk C x dx t d m f os ++ R) P ∧ Dv1 K P v (.list [.int q]) ∧ (os.length : Int) < m ∧ os.length ≤ 100 ∧
  ∀ (H' : Hp) (P' : List Pf), Ps P P' → Own K H' (obk C x dx t d m f (os ++ [(q, false)]) ++ R) P' → Q (.int (f + (os.length : Nat))) H'
theorem ok_Orders_entered (T : Txt K mg) : FnOk P w K mg base CX0 3 T.f_Orders_entered T.fd_Orders_entered ["self", "thing"] (sp_enter K T.C_Orders) := by
  have G_Orders_upcoming := ok_Orders_upcoming (P := P) (w := w) (base := base) T
  refine T.F_Orders_entered.ok sc_Orders_entered (fun vs H Q E h => ?_) (fun cdv A outer s H vs Q E hr h => ?_)
  · obtain ⟨x, dx, t, d, m, f, q, v, os, R, P, rfl, hO, dv, hm, hl1, k⟩ := h; rfl
  · obtain ⟨x, dx, t, d, m, f, q, v, os, R, P, rfl, hO, dv, hm, hl1, k⟩ := h
    refine ⟨_, (pss_cons (ps_if (pt_cmpR op_eq (pe_callB call_len_list (by rfl) T.m_len (by decide +kernel) (pa_cons (pe_fld (pv 0) rfl) pa_nil)) (pe_fld (pv 0) rfl) (nomark _))
          (pss_one ps_never)
          pss_nil)
        (pss_cons (ps_set (i := 2) sc_Orders_entered.nd rfl (Or.inl rfl) (pe_prop (pv 0) T.cl_Orders T.p_Orders_upcoming G_Orders_upcoming (hr.mono (by decide)) T.b_Orders_upcoming .nil pass0 rfl))
        (pss_cons (ps_expr (pe_bm PySem.F.plainAttrs_list PySem.F.slot_list_append PySem.F.type_list_append mt_append (pe_fld (pv 0) rfl) (pa_cons (pv 1) pa_nil)))
        (pss_cons (ps_expr (pe_bm PySem.F.plainAttrs_list PySem.F.slot_list_append PySem.F.type_list_append mt_append (pe_fld (pv 0) rfl) (pa_cons pe_bl pa_nil)))
        (pss_one (ps_ret (pv 2))))))), ?_⟩
    clear G_Orders_upcoming
    clear hr
    have hF := hO
    simp only [obk, List.cons_append, List.nil_append] at hO k
    obtain ⟨us, o1⟩ := hO.openL (a := t) (by walk_at "mem")
    replace hO := o1 _ (by walk_at "setat")
    clear o1
    have hl := (hO.pdp List.mem_cons_self).len
    rw [List.length_map] at hl
    have sz1 : us.length < sizeLine := size_lt (by omega)
    have sz2 : (os.map fun r => V.bl r.2).length < sizeLine := size_lt (by rw [List.length_map]; omega)
    walk_at "go"
    refine iteD (fun h => by exfalso; have := V.int.inj h; omega) (fun _ => ?_)
    walk_at "go"
    refine k _ (.dp us (os.map thD) :: P) (Ps.skip Ps.refl) ?_
    rw [List.map_append, List.map_append]
    walk_at "fin"
    exact Dv.app (Dv.of List.mem_cons_self) (Dv.cons (dv.mono (Ps.skip Ps.refl)) Dv.nil)
def sp_thing (K : PySem.W.Frag) (C : Addr) : Sp := fun vs H Q _ => ∃ (x dx t d : Addr) (m f : Int) (i : Nat) (r : OR) (os : List OR) (R : List (Addr × Ob)) (P : List Pf), vs = [.ref x, .int (f + (i : Nat))] ∧ Own K H (obk C x dx t d m f os ++ R) P ∧ 0 ≤ f ∧ os[i]? = some r ∧
  ∀ (v : V) (P' : List Pf), Ps P P' → Dv1 K P' v (thD r) → Own K H (obk C x dx t d m f os ++ R) P' → Q v H
theorem ok_Orders_thing (T : Txt K mg) : FnOk P w K mg base CX0 5 T.f_Orders_thing T.fd_Orders_thing ["self", "number"] (sp_thing K T.C_Orders) := by
  have G_Orderswhere := ok_Orderswhere (P := P) (w := w) (base := base) T
  refine T.F_Orders_thing.ok sc_Orders_thing (fun vs H Q E h => ?_) (fun cdv A outer s H vs Q E hr h => ?_)
  · obtain ⟨x, dx, t, d, m, f, i, r, os, R, P, rfl, hO, hf, hg, k⟩ := h; rfl
  · obtain ⟨x, dx, t, d, m, f, i, r, os, R, P, rfl, hO, hf, hg, k⟩ := h
    refine ⟨_, (pss_one (ps_ret (pe_ix ix_list (pe_fld (pv 0) rfl) (pe_meth (pv 0) T.cl_Orders T.me_Orderswhere G_Orderswhere (hr.mono (by decide)) T.b_Orderswhere .nil pass0 (pa_cons (pv 1) pa_nil)) (fun _ _ => rfl)))), ?_⟩
    clear G_Orderswhere
    clear hr
    have hF := hO
    simp only [obk, List.cons_append, List.nil_append] at hO k
    obtain ⟨us, o1⟩ := hO.openL (a := t) (by walk_at "mem")
    replace hO := o1 _ (by walk_at "setat")
    clear o1
    have hl := (hO.pdp List.mem_cons_self).len
    rw [List.length_map] at hl
    have hi := (List.getElem?_eq_some_iff.mp hg).1
    have hv : us[i]? = some (us[i]'(by omega)) := List.getElem?_eq_getElem _
    generalize us[i]'(by omega) = u at hv
    have ad : atI us (f + (i : Nat) - f) = some u := by
      rw [show f + (i : Nat) - f = ((i : Nat) : Int) from by omega]; exact atI_nat hv
    walk_at "go"
    refine k u (.dp us (os.map thD) :: P) (Ps.skip Ps.refl) (Dv.get (vs := us) (ds := os.map thD) (Dv.of List.mem_cons_self) hv (by rw [List.getElem?_map, hg]; rfl)) ?_
    walk_at "fin"
def sp_isd (K : PySem.W.Frag) (C : Addr) : Sp := fun vs H Q _ => ∃ (x dx t d : Addr) (m f : Int) (i : Nat) (r : OR) (os : List OR) (R : List (Addr × Ob)) (P : List Pf), vs = [.ref x, .int (f + (i : Nat))] ∧ Own K H (obk C x dx t d m f os ++ R) P ∧ 0 ≤ f ∧ os[i]? = some r ∧ Q (.bl r.2) H
theorem ok_Orders_is_done (T : Txt K mg) : FnOk P w K mg base CX0 5 T.f_Orders_is_done T.fd_Orders_is_done ["self", "number"] (sp_isd K T.C_Orders) := by
  have G_Orderswhere := ok_Orderswhere (P := P) (w := w) (base := base) T
  refine T.F_Orders_is_done.ok sc_Orders_is_done (fun vs H Q E h => ?_) (fun cdv A outer s H vs Q E hr h => ?_)
  · obtain ⟨x, dx, t, d, m, f, i, r, os, R, P, rfl, hO, hf, hg, k⟩ := h; rfl
  · obtain ⟨x, dx, t, d, m, f, i, r, os, R, P, rfl, hO, hf, hg, k⟩ := h
    refine ⟨_, (pss_one (ps_ret (pe_ix ix_list (pe_fld (pv 0) rfl) (pe_meth (pv 0) T.cl_Orders T.me_Orderswhere G_Orderswhere (hr.mono (by decide)) T.b_Orderswhere .nil pass0 (pa_cons (pv 1) pa_nil)) (fun _ _ => rfl)))), ?_⟩
    clear G_Orderswhere
    clear hr
    have hF := hO
    simp only [obk, List.cons_append, List.nil_append] at hO
    have hi := (List.getElem?_eq_some_iff.mp hg).1
    have ad : atI (os.map fun r => V.bl r.2) (f + (i : Nat) - f) = some (.bl r.2) := by
      rw [show f + (i : Nat) - f = ((i : Nat) : Int) from by omega]; exact atI_nat (by rw [List.getElem?_map, hg]; rfl)
    walk_at "go"
theorem ixR {n i : Nat} (h : i < n) : ixN n (i : Int) = some i := by
  unfold ixN
  rw [if_pos (by omega), if_pos (by omega), Int.toNat_natCast]
def sp_dne (K : PySem.W.Frag) (C : Addr) : Sp := fun vs H Q _ => ∃ (x dx t d : Addr) (m f q : Int) (i : Nat) (os : List OR) (R : List (Addr × Ob)) (P : List Pf), vs = [.ref x, .int (f + (i : Nat))] ∧ Own K H (obk C x dx t d m f os ++ R) P ∧ 0 ≤ f ∧ os[i]? = some (q, false) ∧
  ∀ (H' : Hp), Own K H' (obk C x dx t d m f (os.set i (q, true)) ++ R) P → Q .non H'
theorem ok_Orders_done (T : Txt K mg) : FnOk P w K mg base CX0 5 T.f_Orders_done T.fd_Orders_done ["self", "number"] (sp_dne K T.C_Orders) := by
  have G_Orderswhere := ok_Orderswhere (P := P) (w := w) (base := base) T
  refine T.F_Orders_done.ok sc_Orders_done (fun vs H Q E h => ?_) (fun cdv A outer s H vs Q E hr h => ?_)
  · obtain ⟨x, dx, t, d, m, f, q, i, os, R, P, rfl, hO, hf, hg, k⟩ := h; rfl
  · obtain ⟨x, dx, t, d, m, f, q, i, os, R, P, rfl, hO, hf, hg, k⟩ := h
    refine ⟨_, (pss_cons (ps_set (i := 2) sc_Orders_done.nd rfl (Or.inl rfl) (pe_meth (pv 0) T.cl_Orders T.me_Orderswhere G_Orderswhere (hr.mono (by decide)) T.b_Orderswhere .nil pass0 (pa_cons (pv 1) pa_nil)))
        (pss_cons (ps_if (pt_val (pe_ix ix_list (pe_fld (pv 0) rfl) (pv 2) (fun _ _ => rfl)))
          (pss_one ps_never)
          pss_nil)
        (pss_one (ps_asg pe_bl (pg_sub (pe_fld (pv 0) rfl) (pv 2) set_list))))), ?_⟩
    clear G_Orderswhere
    clear hr
    have hF := hO
    simp only [obk, List.cons_append, List.nil_append] at hO k
    have hi := (List.getElem?_eq_some_iff.mp hg).1
    have ei : f + (i : Nat) - f = ((i : Nat) : Int) := by omega
    have ad : atI (os.map fun r => V.bl r.2) (f + (i : Nat) - f) = some (.bl false) := by
      rw [ei]; exact atI_nat (by rw [List.getElem?_map, hg]; rfl)
    have ix : ixN (os.map fun r => V.bl r.2).length (f + (i : Nat) - f) = some i := by rw [ei]; exact ixR (by rw [List.length_map]; exact hi)
    walk_at "go"
    refine k _ ?_
    rw [List.map_set, List.map_set]
    walk_at "fin"
    refine List.ext_getElem? fun j => ?_
    rw [List.getElem?_set]
    by_cases e : i = j
    · subst e
      rw [if_pos rfl, if_pos (by rw [List.length_map]; exact hi), List.getElem?_map, hg]; rfl
    · rw [if_neg e]
end
end K71

set_option Elab.async false
set_option linter.all false
set_option maxRecDepth 100000
set_option maxHeartbeats 8000000

namespace K71
open PySem PySem.Spec PyProof.Rows L2 Hx 
local macro_rules | `(tactic| walk_at "sm") => `(tactic| repeat' (first | assumption | apply Hx.Same.upd | exact L2.Same.refl _ | apply same_trans'))
local macro_rules | `(tactic| walk_at "hp") => `(tactic| repeat' (first | assumption | exact upd_same | apply old_upd | apply same_at))
local macro_rules | `(tactic| walk_at "rd") => `(tactic| repeat' (first | rfl | apply Exists.intro | apply And.intro | refine iteT ?_ | refine iteF ?_ | exact upd_same | exact SqL.of (by assumption) | exact SqL.of upd_same | exact SqT.of upd_same | exact SqT.of (by assumption) | ((with_reducible show (_ : Int) < _); omega) | ((with_reducible show (_ : Int) ≤ _); omega) | (show (_ : Prop); assumption) | exact Or.inl ⟨_, by assumption, rfl⟩ | exact Or.inl ⟨rfl, _, SqL.of (by assumption)⟩ | exact Or.inl ⟨rfl, _, SqL.of upd_same⟩ | apply old_upd | apply Hx.SqL.new | apply tyl_new | apply Pot.new | exact same_at (by assumption) (by assumption) | exact Or.inl (SqL.of (by assumption)) | exact Or.inl (by assumption) | exact Or.inl (SqL.of upd_same) | exact size_le (Nat.le_of_ble_eq_true rfl) | exact Nat.le_of_ble_eq_true rfl | exact True.intro | exact Or.inl rfl | exact Or.inr rfl | (show (_ : Prop); omega) | (show (_ : Prop); dsimp only; omega) | exact mulw64 (by omega) (by omega) | exact mulw64 (by (try dsimp only); omega) (by (try dsimp only); omega)))
set_option hygiene false in
local macro_rules | `(tactic| walk_at "fl") => `(tactic| simp only [pu_Orders_many, pi_Orders_many, pu_Orders_first, pi_Orders_first, pu_Orders_things, pi_Orders_things, pu_Orders_dones, pi_Orders_dones] at hO)
local macro_rules | `(tactic| walk_at "mem") => `(tactic| ((repeat (first | exact List.Mem.head _ | apply List.Mem.tail | fail)); done))
local macro_rules | `(tactic| walk_at "setat") => `(tactic| ((repeat (first | (with_reducible exact At.head) | (with_reducible apply At.tail) | (with_reducible apply At.app) | fail)); done))
set_option hygiene false in
local macro_rules | `(tactic| walk_at "dv") => `(tactic| ((repeat' (first | exact Dv.nil | exact Dv.of (by walk_at "mem") | exact Dv.ints _ | exact Dv1.of (by walk_at "mem") | exact Dv1.int _ | exact Dv1.non | exact Dv1.bl _ | exact Dv1.str _ | (with_reducible apply Dv.cons) | refine Dv1.tup (by walk_at "mem") ?_ | refine Dv1.lst (by walk_at "mem") ?_ | (with_reducible apply Dv.app) | fail)); done))
local macro_rules | `(tactic| walk_at "ft") => `(tactic| (first | (with_reducible exact Ft.refl) | ((with_reducible apply Ft.toL); focus walk_at "dv") | ((with_reducible apply Ft.toS); focus assumption) | (with_reducible apply Ft.lst) | (with_reducible apply Ft.Le) | (with_reducible apply Ft.dK) | (with_reducible apply Ft.De) | (with_reducible apply Ft.ins) | (with_reducible apply Ft.toL) | (with_reducible apply Ft.toS) | (with_reducible apply Ft.toD) | fail))
local macro_rules | `(tactic| walk_at "sbL") => `(tactic| repeat' (first | (with_reducible exact Sb.refl _) | exact Sb.nil | (with_reducible apply Sb.cons) | (with_reducible apply Sb.app) | (with_reducible exact Pk.one) | (with_reducible exact Pk.here) | (with_reducible exact Pk.all) | (with_reducible apply Pk.skip1) | (with_reducible apply Pk.skipB) | (with_reducible apply Sb.skip) | (with_reducible apply Sb.skipB) | ((with_reducible show Ft _ _ _ _); walk_at "ft") | ((with_reducible show (_ : List _) = _); (first | rfl | (simp [List.map_set, List.map_append]; done) | fail)) | fail))
local macro_rules | `(tactic| walk_at "sb") => `(tactic| ((walk_at "sbL"); done))
local macro_rules | `(tactic| walk_at "ps") => `(tactic| ((repeat' (first | (with_reducible exact Ps.refl) | exact Ps.nil | (with_reducible apply Ps.cons) | exact List.Mem.head _ | apply List.Mem.tail | (with_reducible apply Ps.skip) | fail)); done))
set_option hygiene false in
local macro_rules | `(tactic| walk_at "at") => `(tactic| first | assumption | exact Own.raw hO (by walk_at "mem") | exact Own.ptup hO (by walk_at "mem") | exact Own.plst hO (by walk_at "mem") | fail)
set_option hygiene false in
local macro_rules | `(tactic| walk_at "st") => `(tactic| (rw [upd_mkO hO]; generalize e : updX _ _ _ = H1; (first | ((apply Own.cset hO e); (focus walk_at "setat"); (try clear hO e); intro hO) | ((apply Own.cnewT hO e); (focus assumption); (try clear hO e); intro hO) | ((apply Own.cnew hO e); (focus assumption); (try clear hO e); intro hO) | fail)))
set_option hygiene false in
local macro_rules | `(tactic| walk_at "mk") => `(tactic| (intro p1 p2 f1 f2 f3; rw [upd_mkO hO]; generalize e : upd (updX _ _ _) _ _ = H1; apply Own.cmake hO f1 f2 f3 e; (try clear hO e); intro hO))
set_option hygiene false in
local macro_rules | `(tactic| walk_at "own") => `(tactic| (first | ((apply Own.sub hO); (focus walk_at "sb"); (focus walk_at "ps")) | ((apply Own.sub hF); (focus walk_at "sb"); (focus walk_at "ps")) | fail))
set_option hygiene false in
local macro_rules | `(tactic| walk_at "fin") => `(tactic| (refine Own.sub hO ?_ (by walk_at "ps"); walk_at "sbL"))
set_option hygiene false in
local macro_rules | `(tactic| walk_at "g1") => `(tactic| (first
 | ((with_reducible show (_ : Option HO) = _); walk_at "at")
 | ((with_reducible show (_ : Int) < _); omega) | ((with_reducible show (_ : Int) ≤ _); omega)
 | ((with_reducible show (_ : Nat) < _); (first | assumption | exact Nat.le_of_ble_eq_true rfl | exact size_lt (Nat.le_of_ble_eq_true rfl) | omega | (simp; done) | (simp; omega) | fail))
 | ((with_reducible show (_ : Nat) ≤ _); (first | assumption | exact Nat.le_of_ble_eq_true rfl | exact size_le (Nat.le_of_ble_eq_true rfl) | omega | (simp; done) | (simp; omega) | fail))
 | ((with_reducible show Own _ _ _ _); (first | walk_at "own" | (walk_at "st"; walk_at "own") | fail))
 | ((with_reducible show SqL _ _ _ _); (first | assumption | exact SqL.of (by walk_at "at") | fail))
 | ((with_reducible show SqT _ _ _ _); (first | assumption | exact hO.psq (by walk_at "mem") | exact SqT.of (by walk_at "at") | fail))
  | ((with_reducible show Cls _ _); exact Txt.cl_Orders T) | ((with_reducible show NoAttr _ _ _); exact Txt.n_Orders_many T) | (with_reducible exact gt_Orders_many) | ((with_reducible show NoAttr _ _ _); exact Txt.n_Orders_first T) | (with_reducible exact gt_Orders_first) | ((with_reducible show NoAttr _ _ _); exact Txt.n_Orders_things T) | (with_reducible exact gt_Orders_things) | ((with_reducible show NoAttr _ _ _); exact Txt.n_Orders_dones T) | (with_reducible exact gt_Orders_dones)  | ((with_reducible show V.ref _ = V.ref _); (first | rfl | fail))
 | ((with_reducible show DGet _ _ _ _); (first | exact DGet.ki (by walk_at "at") (by assumption) | exact DGet.kiF (by walk_at "at") (by assumption) | fail))
 | ((with_reducible show DPut _ _ _ _ _); exact DPut.ki (by walk_at "at") (by assumption))
 | ((with_reducible show Rd _ _ _); (first | exact Or.inl (by walk_at "at") | exact Or.inr ⟨_, by walk_at "at"⟩ | fail))
 | ((with_reducible show (∃ _ : List (Key × V), _) ∨ _); refine Or.inl ⟨_, by walk_at "at", ?_⟩)
 | ((with_reducible show Dv _ _ _ _); focus walk_at "dv") | ((with_reducible show Dv1 _ _ _ _); focus walk_at "dv")
 | ((with_reducible show IsD _ _); exact Or.inl ⟨_, Or.inl (by walk_at "at")⟩)
 | ((with_reducible show V.int _ = kV _); exact kV_int)
 | ((with_reducible show Option.isSome _ = true); (first | exact isSome_ofV (by assumption) | assumption | fail))
 | ((with_reducible show SqL _ _ _ _ ∨ SqT _ _ _ _); (first | exact Or.inl (by assumption) | exact Or.inr (by assumption) | exact Or.inl (SqL.of (by walk_at "at")) | exact Or.inr (SqT.of (by walk_at "at")) | fail))
 | ((with_reducible show Dp _ _ _ _); (first | assumption | exact hO.dpL (by walk_at "mem") | exact .lst (SqL.of (by walk_at "at")) (hO.all (by walk_at "dv")) | exact hO.one (by walk_at "dv") | fail))
 | ((with_reducible show TruV _ _ _ _); (first | exact Or.inl ⟨_, SqL.of (by walk_at "at"), rfl⟩ | exact Or.inr (Or.inr ⟨_, by walk_at "at", rfl⟩) | exact Or.inr (Or.inl ⟨_, SqT.of (by walk_at "at"), rfl⟩) | fail))
 | ((with_reducible show RgOk _ _); exact RgOk.of_le (by omega) (by omega) (by omega) (by omega))
 | rfl | (with_reducible assumption) | apply And.intro | apply Exists.intro | refine iteT ?_ | refine iteF ?_
 | (walk_at "st"; (try walk_at "fl"))
 | ((with_reducible show ∀ _ : Addr, _ = none → _); (fail_if_success (with_reducible show ∀ _ : Addr, _ = none → ∃ _ : Nat → Nat → Hp → Prop, _)); intro p fp; walk_at "st")
 | (refine Or.inl ⟨SqL.of (by walk_at "at"), ?_⟩) | (refine Or.inr ⟨SqT.of (by walk_at "at"), ?_⟩) | exact Or.inl ⟨_, by walk_at "at", rfl⟩ | exact Or.inl ⟨rfl, _, SqL.of (by walk_at "at")⟩ | exact tyl_of (by walk_at "at") | exact Or.inl (SqL.of (by walk_at "at")) | exact Or.inr (SqT.of (by walk_at "at")) | exact Or.inl (by walk_at "at") | exact size_le (Nat.le_of_ble_eq_true rfl) | exact Nat.le_of_ble_eq_true rfl | exact True.intro | exact Or.inl rfl | exact Or.inr rfl | (show (_ : Prop); assumption) | (show (_ : Prop); omega) | (show (_ : Prop); dsimp only; omega) | exact mulw64 (by omega) (by omega) | exact mulw64 (by (try dsimp only); omega) (by (try dsimp only); omega) | fail))
local macro_rules | `(tactic| walk_at "go") => `(tactic| repeat walk_at "g1")

section
variable {P : Program} {w : World} {K : PySem.W.Frag} {mg : Str → Option Value} {base : Heap}
theorem keepPs {K : PySem.W.Frag} {H : Hp} {L : List (Addr × Ob)} {P : List Pf} {q : Pf} {G : Prop} (hO : Own K H L (q :: P)) (k : ∀ P0, q ∈ P0 → Ps P P0 → Own K H L P0 → G) : G := k (q :: P) List.mem_cons_self (Ps.skip Ps.refl) hO
def sp_left (K : PySem.W.Frag) (C : Addr) : Sp := fun vs H Q _ => ∃ (x dx t d : Addr) (m f q : Int) (os : List OR) (R : List (Addr × Ob)) (P : List Pf), vs = [.ref x] ∧ Own K H (obk C x dx t d m f ((q, true) :: os) ++ R) P ∧ os.length ≤ 100 ∧
  ∀ (tt : Addr) (H' : Hp) (P' : List Pf), Ps P P' → Dv1 K P' (.ref tt) (.tuple [.int f, .list [.int q]]) → Own K H' (obk C x dx t d m (f + 1) os ++ R) P' → Q (.ref tt) H'
theorem ok_Orders_left (T : Txt K mg) : FnOk P w K mg base CX0 1 T.f_Orders_left T.fd_Orders_left ["self"] (sp_left K T.C_Orders) := by
  refine T.F_Orders_left.ok sc_Orders_left (fun vs H Q E h => ?_) (fun cdv A outer s H vs Q E hr h => ?_)
  · obtain ⟨x, dx, t, d, m, f, q, os, R, P, rfl, hO, hl1, k⟩ := h; rfl
  · obtain ⟨x, dx, t, d, m, f, q, os, R, P, rfl, hO, hl1, k⟩ := h
    refine ⟨_, (pss_cons (ps_if (pt_not (PW.pt (pw_and (pt_truth (pe_fld (pv 0) rfl) (by intro _; rfl)) (pw_and1 (pt_val (pe_ix ix_list (pe_fld (pv 0) rfl) pe_int (fun _ _ => rfl)))))))
          (pss_one ps_never)
          pss_nil)
        (pss_cons (ps_set (i := 1) sc_Orders_left.nd rfl (Or.inl rfl) (pe_fld (pv 0) rfl))
        (pss_cons (ps_fld (pv 0) (pe_op op_add (pv 1) pe_int) rfl)
        (pss_cons (ps_expr (pe_bm PySem.F.plainAttrs_list PySem.F.slot_list_pop PySem.F.type_list_pop mt_popAt (pe_fld (pv 0) rfl) (pa_cons pe_int pa_nil)))
        (pss_one (ps_ret (pe_tup (pa_cons (pv 1) (pa_cons (pe_bm PySem.F.plainAttrs_list PySem.F.slot_list_pop PySem.F.type_list_pop mt_popAt (pe_fld (pv 0) rfl) (pa_cons pe_int pa_nil)) pa_nil))))))))), ?_⟩
    clear hr
    have hF := hO
    simp only [obk, List.cons_append, List.nil_append] at hO k
    obtain ⟨us, o1⟩ := hO.openL (a := t) (by walk_at "mem")
    replace hO := o1 _ (by walk_at "setat")
    clear o1
    have hl := (hO.pdp List.mem_cons_self).len
    rw [List.length_map] at hl
    cases us with
    | nil => simp at hl
    | cons u us =>
      have ad : atI ((((q, true) :: os : List OR).map fun r => V.bl r.2)) (0 : Int) = some (.bl true) := atI_nat (xs := (((q, true) :: os : List OR).map fun r => V.bl r.2)) (j := 0) rfl
      have si1 : seqIndex? 0 ((((q, true) :: os : List OR).map fun r => V.bl r.2)).length = some 0 := by unfold seqIndex?; simp
      have g1 : ((((q, true) :: os : List OR).map fun r => V.bl r.2))[0]? = some (.bl true) := rfl
      have si2 : seqIndex? 0 (u :: us).length = some 0 := by unfold seqIndex?; simp
      have g2 : (u :: us)[0]? = some u := rfl
      walk_at "go"
      refine keepPs hO fun P2 mP2 sp2 hO => ?_
      have dvu : Dv K P2 (u :: us) (((q, true) :: os : List OR).map thD) := Dv.of (sp2 _ List.mem_cons_self)
      refine k p _ P2 ((Ps.skip Ps.refl).trans sp2) (Dv1.tup mP2 (Dv.cons (Dv1.int _) (Dv.cons dvu.hd Dv.nil))) ?_
      walk_at "fin"
      exact dvu.tl
def sp_drop (K : PySem.W.Frag) (C : Addr) : Sp := fun vs H Q _ => ∃ (x dx t d : Addr) (m f n : Int) (kp : Nat) (os : List OR) (R : List (Addr × Ob)) (P : List Pf), vs = [.ref x, .int n] ∧ Own K H (obk C x dx t d m f os ++ R) P ∧ 0 ≤ n ∧ (0 ≤ f ∧ f ≤ 1000) ∧ (kp : Int) = (if n - f < 0 then 0 else n - f) ∧ kp ≤ 1000 ∧ os.length ≤ 100 ∧
  ∀ (p : Addr) (H' : Hp) (P' : List Pf), Ps P P' → Own K H' ((p, .L (enumD (f + (kp : Nat)) ((os.drop kp).map thD)).reverse) :: (obk C x dx t d m f (os.take kp) ++ R)) P' → Q (.ref p) H'
theorem ok_Orders_dropped (T : Txt K mg) : FnOk P w K mg base CX0 4 T.f_Orders_dropped T.fd_Orders_dropped ["self", "number"] (sp_drop K T.C_Orders) := by
  have G_need_number := ok_need_number (P := P) (w := w) (base := base) T
  refine T.F_Orders_dropped.ok sc_Orders_dropped (fun vs H Q E h => ?_) (fun cdv A outer s H vs Q E hr h => ?_)
  · obtain ⟨x, dx, t, d, m, f, n, kp, os, R, P, rfl, hO, hn0, hf, hkp, hk1, hl1, k⟩ := h; rfl
  · obtain ⟨x, dx, t, d, m, f, n, kp, os, R, P, rfl, hO, hn0, hf, hkp, hk1, hl1, k⟩ := h
    refine ⟨_, (pss_cons (ps_expr (pe_call G_need_number (hr.mono (by decide)) rfl T.g_need_number T.F_need_number.kp T.b_need_number .nil pass0 (pa_cons (pv 1) pa_nil)))
        (pss_cons (ps_set (i := 2) sc_Orders_dropped.nd rfl (Or.inl rfl) (pe_callB (call_max2 rfl) (by rfl) T.m_max (by decide +kernel) (pa_cons (pe_op op_sub (pv 1) (pe_fld (pv 0) rfl)) (pa_cons pe_int pa_nil))))
        (pss_cons (ps_set (i := 3) sc_Orders_dropped.nd rfl (Or.inl rfl) (pe_listE rfl rfl T.m_list rfl T.m_enumerate (pa_cons (pe_slice sl_list (pe_fld (pv 0) rfl) (po_some (pv 2)) po_none) pa_nil) (pk_cons (pe_op op_add (pe_fld (pv 0) rfl) (pv 2)) pk_nil)))
        (pss_cons (ps_delF (pe_fld (pv 0) rfl) (po_some (pv 2)))
        (pss_cons (ps_delF (pe_fld (pv 0) rfl) (po_some (pv 2)))
        (pss_one (ps_ret (pe_revL (pv 3))))))))), ?_⟩
    clear G_need_number
    clear hr
    have hF := hO
    simp only [obk, List.cons_append, List.nil_append] at hO k
    obtain ⟨us, o1⟩ := hO.openL (a := t) (by walk_at "mem")
    replace hO := o1 _ (by walk_at "setat")
    clear o1
    have hl := (hO.pdp List.mem_cons_self).len
    rw [List.length_map] at hl
    have ek : (if 0 > n - f then 0 else n - f) = ((kp : Nat) : Int) := hkp.symm
    walk_at "go"
    have ec : cutV us (some (if 0 > n - f then 0 else n - f)) none = us.drop kp := by rw [ek, cut_from]
    refine ⟨own_listE hO (ds := (os.drop kp).map thD) (fun H' L' P' m s o => SqL.of (o.raw (m _ List.mem_cons_self))) (by rw [ec, List.map_drop]; exact (Dv.of List.mem_cons_self).drop kp) (by rw [ec, List.length_drop, List.length_map, List.length_drop, hl]) (by rw [ec, List.length_drop]; omega) fun D H2 P2 sp2 hO => ?_⟩
    rw [ec, ek] at hO
    have hO3 : Own K H2 _ P2 := hO
    clear hO
    have hO := hO3
    clear hO3
    rw [ek]
    have m2 : Pf.dp us (os.map thD) ∈ P2 := sp2 _ List.mem_cons_self
    have sp3 : Ps P P2 := (Ps.skip Ps.refl).trans sp2
    clear sp2
    obtain ⟨vg, o1⟩ := hO.openL (a := D) (by walk_at "mem")
    replace hO := o1 _ (by walk_at "setat")
    clear o1
    have hvg := (hO.pdp List.mem_cons_self).len
    rw [enumD_len, List.length_map, List.length_drop] at hvg
    have szg : vg.length ≤ sizeLine := size_le (by omega)
    walk_at "go"
    refine k _ _ (.dp vg (enumD (f + (kp : Nat)) ((os.drop kp).map thD)) :: P2) (sp3.trans (Ps.skip Ps.refl)) ?_
    walk_at "fin"
    · exact (Dv.of List.mem_cons_self).rev
    · rw [List.map_take]
      exact (Dv.of (List.mem_cons_of_mem _ m2)).take kp
def sp_copy (K : PySem.W.Frag) (C : Addr) : Sp := fun vs H Q _ => ∃ (x dx t d : Addr) (m f : Int) (os : List OR) (R : List (Addr × Ob)) (P : List Pf), vs = [.ref x] ∧ Own K H (obk C x dx t d m f os ++ R) P ∧ (1 ≤ m ∧ m ≤ 32) ∧ os.length ≤ 100 ∧
  ∀ (y dy t' d' : Addr) (H' : Hp) (P' : List Pf), Ps P P' → Own K H' (obk C y dy t' d' m f os ++ (obk C x dx t d m f os ++ R)) P' → Q (.ref y) H'
theorem ok_Orders_copy (T : Txt K mg) : FnOk P w K mg base CX0 6 T.f_Orders_copy T.fd_Orders_copy ["self"] (sp_copy K T.C_Orders) := by
  have G_Orders_init := ok_Orders_init (P := P) (w := w) (base := base) T
  refine T.F_Orders_copy.ok sc_Orders_copy (fun vs H Q E h => ?_) (fun cdv A outer s H vs Q E hr h => ?_)
  · obtain ⟨x, dx, t, d, m, f, os, R, P, rfl, hO, hm, hl1, k⟩ := h; rfl
  · obtain ⟨x, dx, t, d, m, f, os, R, P, rfl, hO, hm, hl1, k⟩ := h
    refine ⟨_, (pss_cons (ps_set (i := 1) sc_Orders_copy.nd rfl (Or.inl rfl) (pe_make T.mk_Orders G_Orders_init (hr.mono (by decide)) rfl T.g_Orders T.b_Orders_init .nil pass0 (pa_cons (pe_fld (pv 0) rfl) pa_nil)))
        (pss_cons (ps_fld (pv 1) (pe_fld (pv 0) rfl) rfl)
        (pss_cons (ps_fld (pv 1) (pe_callTy call_list_of (by rfl) T.m_list (by decide +kernel) (pa_cons (pe_fld (pv 0) rfl) pa_nil)) rfl)
        (pss_cons (ps_fld (pv 1) (pe_callTy call_list_of (by rfl) T.m_list (by decide +kernel) (pa_cons (pe_fld (pv 0) rfl) pa_nil)) rfl)
        (pss_one (ps_ret (pv 1))))))), ?_⟩
    clear G_Orders_init
    clear hr
    simp only [obk, List.cons_append, List.nil_append] at hO k
    obtain ⟨us, o1⟩ := hO.openL (a := t) (by walk_at "mem")
    replace hO := o1 _ (by walk_at "setat")
    clear o1
    have hl := (hO.pdp List.mem_cons_self).len
    rw [List.length_map] at hl
    have sz1 : us.length ≤ sizeLine := size_le (by omega)
    have sz2 : (os.map fun r => V.bl r.2).length ≤ sizeLine := size_le (by rw [List.length_map]; omega)
    walk_at "go"
    walk_at "mk"
    walk_at "go"
    intro t2 d2 H3 hO
    simp only [obk, List.cons_append, List.nil_append] at hO
    walk_at "go"
    refine k p1 p2 ?tt ?dd H1 _ ?ps (Own.sub hO ?sb Ps.refl)
    case' ps => exact Ps.skip Ps.refl
    case' sb => walk_at "sbL"
    all_goals exact Dv.of List.mem_cons_self
end
end K71

set_option Elab.async false
set_option linter.all false
set_option maxRecDepth 100000
set_option maxHeartbeats 8000000

namespace K71
open PySem PySem.Spec PyProof.Rows L2 Hx 
local macro_rules | `(tactic| walk_at "sm") => `(tactic| repeat' (first | assumption | apply Hx.Same.upd | exact L2.Same.refl _ | apply same_trans'))
local macro_rules | `(tactic| walk_at "hp") => `(tactic| repeat' (first | assumption | exact upd_same | apply old_upd | apply same_at))
local macro_rules | `(tactic| walk_at "rd") => `(tactic| repeat' (first | rfl | apply Exists.intro | apply And.intro | refine iteT ?_ | refine iteF ?_ | exact upd_same | exact SqL.of (by assumption) | exact SqL.of upd_same | exact SqT.of upd_same | exact SqT.of (by assumption) | ((with_reducible show (_ : Int) < _); omega) | ((with_reducible show (_ : Int) ≤ _); omega) | (show (_ : Prop); assumption) | exact Or.inl ⟨_, by assumption, rfl⟩ | exact Or.inl ⟨rfl, _, SqL.of (by assumption)⟩ | exact Or.inl ⟨rfl, _, SqL.of upd_same⟩ | apply old_upd | apply Hx.SqL.new | apply tyl_new | apply Pot.new | exact same_at (by assumption) (by assumption) | exact Or.inl (SqL.of (by assumption)) | exact Or.inl (by assumption) | exact Or.inl (SqL.of upd_same) | exact size_le (Nat.le_of_ble_eq_true rfl) | exact Nat.le_of_ble_eq_true rfl | exact True.intro | exact Or.inl rfl | exact Or.inr rfl | (show (_ : Prop); omega) | (show (_ : Prop); dsimp only; omega) | exact mulw64 (by omega) (by omega) | exact mulw64 (by (try dsimp only); omega) (by (try dsimp only); omega)))
set_option hygiene false in
local macro_rules | `(tactic| walk_at "fl") => `(tactic| simp only [pu_Orders_many, pi_Orders_many, pu_Orders_first, pi_Orders_first, pu_Orders_things, pi_Orders_things, pu_Orders_dones, pi_Orders_dones] at hO)
local macro_rules | `(tactic| walk_at "mem") => `(tactic| ((repeat (first | exact List.Mem.head _ | apply List.Mem.tail | fail)); done))
local macro_rules | `(tactic| walk_at "setat") => `(tactic| ((repeat (first | (with_reducible exact At.head) | (with_reducible apply At.tail) | (with_reducible apply At.app) | fail)); done))
set_option hygiene false in
local macro_rules | `(tactic| walk_at "dv") => `(tactic| ((repeat' (first | exact Dv.nil | exact Dv.of (by walk_at "mem") | exact Dv.ints _ | exact Dv1.of (by walk_at "mem") | exact Dv1.int _ | exact Dv1.non | exact Dv1.bl _ | exact Dv1.str _ | (with_reducible apply Dv.cons) | refine Dv1.tup (by walk_at "mem") ?_ | refine Dv1.lst (by walk_at "mem") ?_ | (with_reducible apply Dv.app) | fail)); done))
local macro_rules | `(tactic| walk_at "ft") => `(tactic| (first | (with_reducible exact Ft.refl) | ((with_reducible apply Ft.toL); focus walk_at "dv") | ((with_reducible apply Ft.toS); focus assumption) | (with_reducible apply Ft.lst) | (with_reducible apply Ft.Le) | (with_reducible apply Ft.dK) | (with_reducible apply Ft.De) | (with_reducible apply Ft.ins) | (with_reducible apply Ft.toL) | (with_reducible apply Ft.toS) | (with_reducible apply Ft.toD) | fail))
local macro_rules | `(tactic| walk_at "sbL") => `(tactic| repeat' (first | (with_reducible exact Sb.refl _) | exact Sb.nil | (with_reducible apply Sb.cons) | (with_reducible apply Sb.app) | (with_reducible exact Pk.one) | (with_reducible exact Pk.here) | (with_reducible exact Pk.all) | (with_reducible apply Pk.skip1) | (with_reducible apply Pk.skipB) | (with_reducible apply Sb.skip) | (with_reducible apply Sb.skipB) | ((with_reducible show Ft _ _ _ _); walk_at "ft") | ((with_reducible show (_ : List _) = _); (first | rfl | (simp [List.map_set, List.map_append]; done) | fail)) | fail))
local macro_rules | `(tactic| walk_at "sb") => `(tactic| ((walk_at "sbL"); done))
local macro_rules | `(tactic| walk_at "ps") => `(tactic| ((repeat' (first | (with_reducible exact Ps.refl) | exact Ps.nil | (with_reducible apply Ps.cons) | exact List.Mem.head _ | apply List.Mem.tail | (with_reducible apply Ps.skip) | fail)); done))
set_option hygiene false in
local macro_rules | `(tactic| walk_at "at") => `(tactic| first | assumption | exact Own.raw hO (by walk_at "mem") | exact Own.ptup hO (by walk_at "mem") | exact Own.plst hO (by walk_at "mem") | fail)
set_option hygiene false in
local macro_rules | `(tactic| walk_at "st") => `(tactic| (rw [upd_mkO hO]; generalize e : updX _ _ _ = H1; (first | ((apply Own.cset hO e); (focus walk_at "setat"); (try clear hO e); intro hO) | ((apply Own.cnewT hO e); (focus assumption); (try clear hO e); intro hO) | ((apply Own.cnew hO e); (focus assumption); (try clear hO e); intro hO) | fail)))
set_option hygiene false in
local macro_rules | `(tactic| walk_at "mk") => `(tactic| (intro p1 p2 f1 f2 f3; rw [upd_mkO hO]; generalize e : upd (updX _ _ _) _ _ = H1; apply Own.cmake hO f1 f2 f3 e; (try clear hO e); intro hO))
set_option hygiene false in
local macro_rules | `(tactic| walk_at "own") => `(tactic| (first | ((apply Own.sub hO); (focus walk_at "sb"); (focus walk_at "ps")) | ((apply Own.sub hF); (focus walk_at "sb"); (focus walk_at "ps")) | fail))
set_option hygiene false in
local macro_rules | `(tactic| walk_at "fin") => `(tactic| (refine Own.sub hO ?_ (by walk_at "ps"); walk_at "sbL"))
set_option hygiene false in
local macro_rules | `(tactic| walk_at "g1") => `(tactic| (first
 | ((with_reducible show (_ : Option HO) = _); walk_at "at")
 | ((with_reducible show (_ : Int) < _); omega) | ((with_reducible show (_ : Int) ≤ _); omega)
 | ((with_reducible show (_ : Nat) < _); (first | assumption | exact Nat.le_of_ble_eq_true rfl | exact size_lt (Nat.le_of_ble_eq_true rfl) | omega | (simp; done) | (simp; omega) | fail))
 | ((with_reducible show (_ : Nat) ≤ _); (first | assumption | exact Nat.le_of_ble_eq_true rfl | exact size_le (Nat.le_of_ble_eq_true rfl) | omega | (simp; done) | (simp; omega) | fail))
 | ((with_reducible show Own _ _ _ _); (first | walk_at "own" | (walk_at "st"; walk_at "own") | fail))
 | ((with_reducible show SqL _ _ _ _); (first | assumption | exact SqL.of (by walk_at "at") | fail))
 | ((with_reducible show SqT _ _ _ _); (first | assumption | exact hO.psq (by walk_at "mem") | exact SqT.of (by walk_at "at") | fail))
  | ((with_reducible show Cls _ _); exact Txt.cl_Orders T) | ((with_reducible show NoAttr _ _ _); exact Txt.n_Orders_many T) | (with_reducible exact gt_Orders_many) | ((with_reducible show NoAttr _ _ _); exact Txt.n_Orders_first T) | (with_reducible exact gt_Orders_first) | ((with_reducible show NoAttr _ _ _); exact Txt.n_Orders_things T) | (with_reducible exact gt_Orders_things) | ((with_reducible show NoAttr _ _ _); exact Txt.n_Orders_dones T) | (with_reducible exact gt_Orders_dones)  | ((with_reducible show V.ref _ = V.ref _); (first | rfl | fail))
 | ((with_reducible show DGet _ _ _ _); (first | exact DGet.ki (by walk_at "at") (by assumption) | exact DGet.kiF (by walk_at "at") (by assumption) | fail))
 | ((with_reducible show DPut _ _ _ _ _); exact DPut.ki (by walk_at "at") (by assumption))
 | ((with_reducible show Rd _ _ _); (first | exact Or.inl (by walk_at "at") | exact Or.inr ⟨_, by walk_at "at"⟩ | fail))
 | ((with_reducible show (∃ _ : List (Key × V), _) ∨ _); refine Or.inl ⟨_, by walk_at "at", ?_⟩)
 | ((with_reducible show Dv _ _ _ _); focus walk_at "dv") | ((with_reducible show Dv1 _ _ _ _); focus walk_at "dv")
 | ((with_reducible show IsD _ _); exact Or.inl ⟨_, Or.inl (by walk_at "at")⟩)
 | ((with_reducible show V.int _ = kV _); exact kV_int)
 | ((with_reducible show Option.isSome _ = true); (first | exact isSome_ofV (by assumption) | assumption | fail))
 | ((with_reducible show SqL _ _ _ _ ∨ SqT _ _ _ _); (first | exact Or.inl (by assumption) | exact Or.inr (by assumption) | exact Or.inl (SqL.of (by walk_at "at")) | exact Or.inr (SqT.of (by walk_at "at")) | fail))
 | ((with_reducible show Dp _ _ _ _); (first | assumption | exact hO.dpL (by walk_at "mem") | exact .lst (SqL.of (by walk_at "at")) (hO.all (by walk_at "dv")) | exact hO.one (by walk_at "dv") | fail))
 | ((with_reducible show TruV _ _ _ _); (first | exact Or.inl ⟨_, SqL.of (by walk_at "at"), rfl⟩ | exact Or.inr (Or.inr ⟨_, by walk_at "at", rfl⟩) | exact Or.inr (Or.inl ⟨_, SqT.of (by walk_at "at"), rfl⟩) | fail))
 | ((with_reducible show RgOk _ _); exact RgOk.of_le (by omega) (by omega) (by omega) (by omega))
 | rfl | (with_reducible assumption) | apply And.intro | apply Exists.intro | refine iteT ?_ | refine iteF ?_
 | (walk_at "st"; (try walk_at "fl"))
 | ((with_reducible show ∀ _ : Addr, _ = none → _); (fail_if_success (with_reducible show ∀ _ : Addr, _ = none → ∃ _ : Nat → Nat → Hp → Prop, _)); intro p fp; walk_at "st")
 | (refine Or.inl ⟨SqL.of (by walk_at "at"), ?_⟩) | (refine Or.inr ⟨SqT.of (by walk_at "at"), ?_⟩) | exact Or.inl ⟨_, by walk_at "at", rfl⟩ | exact Or.inl ⟨rfl, _, SqL.of (by walk_at "at")⟩ | exact tyl_of (by walk_at "at") | exact Or.inl (SqL.of (by walk_at "at")) | exact Or.inr (SqT.of (by walk_at "at")) | exact Or.inl (by walk_at "at") | exact size_le (Nat.le_of_ble_eq_true rfl) | exact Nat.le_of_ble_eq_true rfl | exact True.intro | exact Or.inl rfl | exact Or.inr rfl | (show (_ : Prop); assumption) | (show (_ : Prop); omega) | (show (_ : Prop); dsimp only; omega) | exact mulw64 (by omega) (by omega) | exact mulw64 (by (try dsimp only); omega) (by (try dsimp only); omega) | fail))
local macro_rules | `(tactic| walk_at "go") => `(tactic| repeat walk_at "g1")

section
variable {P : Program} {w : World} {K : PySem.W.Frag} {mg : Str → Option Value} {base : Heap}
def sp_Lpot (K : PySem.W.Frag) : Sp := fun vs H Q _ => ∃ (a : Addr) (ns : List Int), vs = [.ref a, .int 0] ∧ SqL K H a (ns.map V.int) ∧ ns.length ≤ 63 ∧ ∀ p (H' : Hp), Own K H' (pt p ++ []) [] → Q (.ref p) H'
theorem ok_Lpot (T : Txt K mg) : FnOk P w K mg base CX0 1 T.f_Lpot T.fd_Lpot ["_law_script", "_law_k"] (sp_Lpot K) := by
  refine T.F_Lpot.ok sc_Lpot (fun vs H Q E h => ?_) (fun cdv A outer s H vs Q E hr h => ?_)
  · obtain ⟨a, ns, rfl, hS, hl, k⟩ := h; rfl
  · obtain ⟨a, ns, rfl, hS, hl, k⟩ := h
    refine ⟨_, (pss_cons (ps_set (i := 2) sc_Lpot.nd rfl (Or.inl rfl) (pe_ifExp (pt_cmpR op_lt (pv 1) (pe_callB call_len_list (by rfl) T.m_len (by decide +kernel) (pa_cons (pv 0) pa_nil)) (nomark _)) (pe_callB call_abs (by rfl) T.m_abs (by decide +kernel) (pa_cons (pe_ix ix_list (pv 0) (pv 1) (fun _ _ => rfl)) pa_nil)) (pe_op op_add (pe_op op_mulW pe_int (pv 1)) pe_int)))
        (pss_cons (ps_set (i := 3) sc_Lpot.nd rfl (Or.inl rfl) (pe_op op_add (pe_op op_mod (pe_callTy call_int1i (by rfl) T.m_int (by decide +kernel) (pa_cons (pe_op op_add (pe_op op_add (pe_op op_mulW (pe_op op_mod (pe_callTy call_int1i (by rfl) T.m_int (by decide +kernel) (pa_cons (pv 2) pa_nil)) pe_int) pe_int) (pe_op op_mulW pe_int (pv 1))) pe_int) pa_nil)) pe_int) pe_int))
        (pss_one (ps_ret (pe_lst (pa_cons (pe_callB (call_max2 rfl) (by rfl) T.m_max (by decide +kernel) (pa_cons pe_int (pa_cons (pe_op op_sub (pv 2) (pe_op op_pow pe_int pe_int)) pa_nil))) (pa_cons (pv 3) pa_nil))))))), ?_⟩
    clear hr
    simp only [pt, List.cons_append, List.nil_append] at k
    have hO : Own K H [] [] := Own.start
    walk_at "go"
    refine iteD (fun h => ?_) (fun h => ?_)
    · obtain ⟨v, hv, hm⟩ := pick_at (xs := ns.map V.int) (d := 0) (by omega) (by simpa using h)
      obtain ⟨z, _, rfl⟩ := List.mem_map.mp hm
      walk_at "go"
      apply k
      walk_at "fin"
      exact ⟨_, _, rfl, by split <;> omega, by omega, by omega⟩
    · walk_at "go"
      apply k
      walk_at "fin"
      exact ⟨_, _, rfl, by split <;> omega, by omega, by omega⟩

theorem ok_Ldraw (T : Txt K mg) : FnOk P w K mg base CX0 1 T.f_Ldraw T.fd_Ldraw ["_law_pot_here", "_law_sides"] (spDrw K) := by
  refine T.F_Ldraw.ok sc_Ldraw (fun vs H Q E h => ?_) (fun cdv A outer s H vs Q E hr h => ?_)
  · obtain ⟨a, n, R, P, rfl, hO, hn, hn2, k⟩ := h; rfl
  · obtain ⟨a, n, R, P, rfl, hO, hn, hn2, k⟩ := h
    refine ⟨_, (pss_cons (ps_if (pt_cmpR op_gt (pe_ix ix_list (pv 0) pe_int (fun _ _ => rfl)) pe_int (nomark _))
          (pss_cons (ps_asg (pe_callB call_divmod (by rfl) T.m_divmod (by decide +kernel) (pa_cons (pe_ix ix_list (pv 0) pe_int (fun _ _ => rfl)) (pa_cons (pv 1) pa_nil))) (pg_tup rfl (pgs_cons (pg_sub (pv 0) pe_int set_list) (pgs_cons (pg_name (i := 2) sc_Ldraw.nd rfl (Or.inl rfl)) pgs_nil))))
          (pss_one (ps_ret (pv 2))))
          pss_nil)
        (pss_cons (ps_asg (pe_op op_mod (pe_callTy call_int1i (by rfl) T.m_int (by decide +kernel) (pa_cons (pe_op op_add (pe_op op_mulW (pe_ix ix_list (pv 0) pe_int (fun _ _ => rfl)) pe_int) pe_int) pa_nil)) pe_int) (pg_sub (pv 0) pe_int set_list))
        (pss_one (ps_ret (pe_op op_mod (pe_callTy call_int1i (by rfl) T.m_int (by decide +kernel) (pa_cons (pe_op op_fdiv (pe_op op_mod (pe_callTy call_int1i (by rfl) T.m_int (by decide +kernel) (pa_cons (pe_op op_mulW (pe_ix ix_list (pv 0) pe_int (fun _ _ => rfl)) (pe_ix ix_list (pv 0) pe_int (fun _ _ => rfl))) pa_nil)) pe_int) pe_int) pa_nil)) (pv 1)))))), ?_⟩
    clear hr
    simp only [pt, List.cons_append, List.nil_append] at hO k
    obtain ⟨o, ⟨x, y, rfl, hx, hy, hy2⟩, o1⟩ := hO.openS (a := a) (φ := PotO) (by walk_at "mem")
    replace hO := o1 _ (by walk_at "setat")
    clear o1
    walk_at "go"
    refine iteD (fun h => ?_) (fun h => ?_)
    · walk_at "go"
      refine k (x % n) _ (Int.emod_nonneg _ (by omega)) (Int.emod_lt_of_pos _ hn) ?_
      walk_at "fin"
      exact ⟨x / n, y, rfl, Int.ediv_nonneg hx (by omega), hy, hy2⟩
    · walk_at "go"
      refine k _ _ (Int.emod_nonneg _ (by omega)) (Int.emod_lt_of_pos _ hn) ?_
      walk_at "fin"
      exact ⟨x, _, rfl, hx, by omega, by omega⟩
def sp_Lpick (K : PySem.W.Frag) : Sp := fun vs H Q _ => ∃ (a l : Addr) (xs : List V) (R : List (Addr × Ob)) (P : List Pf), vs = [.ref a, .ref l] ∧ Own K H (pt a ++ ((l, .raw (.lst xs)) :: R)) P ∧ 0 < xs.length ∧ xs.length ≤ 1000 ∧
  ∀ (i : Nat) (v : V) (H' : Hp), xs[i]? = some v → Own K H' (pt a ++ ((l, .raw (.lst xs)) :: R)) P → Q v H'
theorem ok_Lpick (T : Txt K mg) : FnOk P w K mg base CX0 2 T.f_Lpick T.fd_Lpick ["_law_pot_here", "_law_some"] (sp_Lpick K) := by
  have G_Ldraw := ok_Ldraw (P := P) (w := w) (base := base) T
  refine T.F_Lpick.ok sc_Lpick (fun vs H Q E h => ?_) (fun cdv A outer s H vs Q E hr h => ?_)
  · obtain ⟨a, l, xs, R, P, rfl, hO, h0, h1, k⟩ := h; rfl
  · obtain ⟨a, l, xs, R, P, rfl, hO, h0, h1, k⟩ := h
    refine ⟨_, (pss_one (ps_ret (pe_ix ix_list (pv 1) (pe_call G_Ldraw (hr.mono (by decide)) rfl T.g_Ldraw T.F_Ldraw.kp T.b_Ldraw .nil pass0 (pa_cons (pv 0) (pa_cons (pe_callB call_len_list (by rfl) T.m_len (by decide +kernel) (pa_cons (pv 1) pa_nil)) pa_nil))) (fun _ _ => rfl)))), ?_⟩
    clear G_Ldraw
    clear hr
    simp only [pt, List.cons_append, List.nil_append] at hO k
    walk_at "go"
    intro d H1 d0 d1 hO
    obtain ⟨d, rfl⟩ := Int.eq_ofNat_of_zero_le d0
    have dl : d < xs.length := by omega
    have ad : atI xs (d : Int) = some xs[d] := atI_nat (List.getElem?_eq_getElem dl)
    simp only [pt, List.cons_append, List.nil_append] at hO
    walk_at "go"
    exact k d _ _ (List.getElem?_eq_getElem dl) hO
end
end K71

set_option Elab.async false
set_option linter.all false
set_option maxRecDepth 100000
set_option maxHeartbeats 8000000

namespace K71
open PySem PySem.Spec PyProof.Rows L2 Hx 
local macro_rules | `(tactic| walk_at "sm") => `(tactic| repeat' (first | assumption | apply Hx.Same.upd | exact L2.Same.refl _ | apply same_trans'))
local macro_rules | `(tactic| walk_at "hp") => `(tactic| repeat' (first | assumption | exact upd_same | apply old_upd | apply same_at))
local macro_rules | `(tactic| walk_at "rd") => `(tactic| repeat' (first | rfl | apply Exists.intro | apply And.intro | refine iteT ?_ | refine iteF ?_ | exact upd_same | exact SqL.of (by assumption) | exact SqL.of upd_same | exact SqT.of upd_same | exact SqT.of (by assumption) | ((with_reducible show (_ : Int) < _); omega) | ((with_reducible show (_ : Int) ≤ _); omega) | (show (_ : Prop); assumption) | exact Or.inl ⟨_, by assumption, rfl⟩ | exact Or.inl ⟨rfl, _, SqL.of (by assumption)⟩ | exact Or.inl ⟨rfl, _, SqL.of upd_same⟩ | apply old_upd | apply Hx.SqL.new | apply tyl_new | apply Pot.new | exact same_at (by assumption) (by assumption) | exact Or.inl (SqL.of (by assumption)) | exact Or.inl (by assumption) | exact Or.inl (SqL.of upd_same) | exact size_le (Nat.le_of_ble_eq_true rfl) | exact Nat.le_of_ble_eq_true rfl | exact True.intro | exact Or.inl rfl | exact Or.inr rfl | (show (_ : Prop); omega) | (show (_ : Prop); dsimp only; omega) | exact mulw64 (by omega) (by omega) | exact mulw64 (by (try dsimp only); omega) (by (try dsimp only); omega)))
set_option hygiene false in
local macro_rules | `(tactic| walk_at "fl") => `(tactic| simp only [pu_Orders_many, pi_Orders_many, pu_Orders_first, pi_Orders_first, pu_Orders_things, pi_Orders_things, pu_Orders_dones, pi_Orders_dones] at hO)
local macro_rules | `(tactic| walk_at "mem") => `(tactic| ((repeat (first | exact List.Mem.head _ | apply List.Mem.tail | fail)); done))
local macro_rules | `(tactic| walk_at "setat") => `(tactic| ((repeat (first | (with_reducible exact At.head) | (with_reducible apply At.tail) | (with_reducible apply At.app) | fail)); done))
set_option hygiene false in
local macro_rules | `(tactic| walk_at "dv") => `(tactic| ((repeat' (first | exact Dv.nil | exact Dv.of (by walk_at "mem") | exact Dv.ints _ | exact Dv1.of (by walk_at "mem") | exact Dv1.int _ | exact Dv1.non | exact Dv1.bl _ | exact Dv1.str _ | (with_reducible apply Dv.cons) | refine Dv1.tup (by walk_at "mem") ?_ | refine Dv1.lst (by walk_at "mem") ?_ | (with_reducible apply Dv.app) | fail)); done))
local macro_rules | `(tactic| walk_at "ft") => `(tactic| (first | (with_reducible exact Ft.refl) | ((with_reducible apply Ft.toL); focus walk_at "dv") | ((with_reducible apply Ft.toS); focus assumption) | (with_reducible apply Ft.lst) | (with_reducible apply Ft.Le) | (with_reducible apply Ft.dK) | (with_reducible apply Ft.De) | (with_reducible apply Ft.ins) | (with_reducible apply Ft.toL) | (with_reducible apply Ft.toS) | (with_reducible apply Ft.toD) | fail))
local macro_rules | `(tactic| walk_at "sbL") => `(tactic| repeat' (first | (with_reducible exact Sb.refl _) | exact Sb.nil | (with_reducible apply Sb.cons) | (with_reducible apply Sb.app) | (with_reducible exact Pk.one) | (with_reducible exact Pk.here) | (with_reducible exact Pk.all) | (with_reducible apply Pk.skip1) | (with_reducible apply Pk.skipB) | (with_reducible apply Sb.skip) | (with_reducible apply Sb.skipB) | ((with_reducible show Ft _ _ _ _); walk_at "ft") | ((with_reducible show (_ : List _) = _); (first | rfl | (simp [List.map_set, List.map_append]; done) | fail)) | fail))
local macro_rules | `(tactic| walk_at "sb") => `(tactic| ((walk_at "sbL"); done))
local macro_rules | `(tactic| walk_at "ps") => `(tactic| ((repeat' (first | (with_reducible exact Ps.refl) | exact Ps.nil | (with_reducible apply Ps.cons) | exact List.Mem.head _ | apply List.Mem.tail | (with_reducible apply Ps.skip) | fail)); done))
set_option hygiene false in
local macro_rules | `(tactic| walk_at "at") => `(tactic| first | assumption | exact Own.raw hO (by walk_at "mem") | exact Own.ptup hO (by walk_at "mem") | exact Own.plst hO (by walk_at "mem") | fail)
set_option hygiene false in
local macro_rules | `(tactic| walk_at "st") => `(tactic| (rw [upd_mkO hO]; generalize e : updX _ _ _ = H1; (first | ((apply Own.cset hO e); (focus walk_at "setat"); (try clear hO e); intro hO) | ((apply Own.cnewT hO e); (focus assumption); (try clear hO e); intro hO) | ((apply Own.cnew hO e); (focus assumption); (try clear hO e); intro hO) | fail)))
set_option hygiene false in
local macro_rules | `(tactic| walk_at "mk") => `(tactic| (intro p1 p2 f1 f2 f3; rw [upd_mkO hO]; generalize e : upd (updX _ _ _) _ _ = H1; apply Own.cmake hO f1 f2 f3 e; (try clear hO e); intro hO))
set_option hygiene false in
local macro_rules | `(tactic| walk_at "own") => `(tactic| (first | ((apply Own.sub hO); (focus walk_at "sb"); (focus walk_at "ps")) | ((apply Own.sub hF); (focus walk_at "sb"); (focus walk_at "ps")) | fail))
set_option hygiene false in
local macro_rules | `(tactic| walk_at "fin") => `(tactic| (refine Own.sub hO ?_ (by walk_at "ps"); walk_at "sbL"))
set_option hygiene false in
local macro_rules | `(tactic| walk_at "g1") => `(tactic| (first
 | ((with_reducible show (_ : Option HO) = _); walk_at "at")
 | ((with_reducible show (_ : Int) < _); omega) | ((with_reducible show (_ : Int) ≤ _); omega)
 | ((with_reducible show (_ : Nat) < _); (first | assumption | exact Nat.le_of_ble_eq_true rfl | exact size_lt (Nat.le_of_ble_eq_true rfl) | omega | (simp; done) | (simp; omega) | fail))
 | ((with_reducible show (_ : Nat) ≤ _); (first | assumption | exact Nat.le_of_ble_eq_true rfl | exact size_le (Nat.le_of_ble_eq_true rfl) | omega | (simp; done) | (simp; omega) | fail))
 | ((with_reducible show Own _ _ _ _); (first | walk_at "own" | (walk_at "st"; walk_at "own") | fail))
 | ((with_reducible show SqL _ _ _ _); (first | assumption | exact SqL.of (by walk_at "at") | fail))
 | ((with_reducible show SqT _ _ _ _); (first | assumption | exact hO.psq (by walk_at "mem") | exact SqT.of (by walk_at "at") | fail))
  | ((with_reducible show Cls _ _); exact Txt.cl_Orders T) | ((with_reducible show NoAttr _ _ _); exact Txt.n_Orders_many T) | (with_reducible exact gt_Orders_many) | ((with_reducible show NoAttr _ _ _); exact Txt.n_Orders_first T) | (with_reducible exact gt_Orders_first) | ((with_reducible show NoAttr _ _ _); exact Txt.n_Orders_things T) | (with_reducible exact gt_Orders_things) | ((with_reducible show NoAttr _ _ _); exact Txt.n_Orders_dones T) | (with_reducible exact gt_Orders_dones)  | ((with_reducible show V.ref _ = V.ref _); (first | rfl | fail))
 | ((with_reducible show DGet _ _ _ _); (first | exact DGet.ki (by walk_at "at") (by assumption) | exact DGet.kiF (by walk_at "at") (by assumption) | fail))
 | ((with_reducible show DPut _ _ _ _ _); exact DPut.ki (by walk_at "at") (by assumption))
 | ((with_reducible show Rd _ _ _); (first | exact Or.inl (by walk_at "at") | exact Or.inr ⟨_, by walk_at "at"⟩ | fail))
 | ((with_reducible show (∃ _ : List (Key × V), _) ∨ _); refine Or.inl ⟨_, by walk_at "at", ?_⟩)
 | ((with_reducible show Dv _ _ _ _); focus walk_at "dv") | ((with_reducible show Dv1 _ _ _ _); focus walk_at "dv")
 | ((with_reducible show IsD _ _); exact Or.inl ⟨_, Or.inl (by walk_at "at")⟩)
 | ((with_reducible show V.int _ = kV _); exact kV_int)
 | ((with_reducible show Option.isSome _ = true); (first | exact isSome_ofV (by assumption) | assumption | fail))
 | ((with_reducible show SqL _ _ _ _ ∨ SqT _ _ _ _); (first | exact Or.inl (by assumption) | exact Or.inr (by assumption) | exact Or.inl (SqL.of (by walk_at "at")) | exact Or.inr (SqT.of (by walk_at "at")) | fail))
 | ((with_reducible show Dp _ _ _ _); (first | assumption | exact hO.dpL (by walk_at "mem") | exact .lst (SqL.of (by walk_at "at")) (hO.all (by walk_at "dv")) | exact hO.one (by walk_at "dv") | fail))
 | ((with_reducible show TruV _ _ _ _); (first | exact Or.inl ⟨_, SqL.of (by walk_at "at"), rfl⟩ | exact Or.inr (Or.inr ⟨_, by walk_at "at", rfl⟩) | exact Or.inr (Or.inl ⟨_, SqT.of (by walk_at "at"), rfl⟩) | fail))
 | ((with_reducible show RgOk _ _); exact RgOk.of_le (by omega) (by omega) (by omega) (by omega))
 | rfl | (with_reducible assumption) | apply And.intro | apply Exists.intro | refine iteT ?_ | refine iteF ?_
 | (walk_at "st"; (try walk_at "fl"))
 | ((with_reducible show ∀ _ : Addr, _ = none → _); (fail_if_success (with_reducible show ∀ _ : Addr, _ = none → ∃ _ : Nat → Nat → Hp → Prop, _)); intro p fp; walk_at "st")
 | (refine Or.inl ⟨SqL.of (by walk_at "at"), ?_⟩) | (refine Or.inr ⟨SqT.of (by walk_at "at"), ?_⟩) | exact Or.inl ⟨_, by walk_at "at", rfl⟩ | exact Or.inl ⟨rfl, _, SqL.of (by walk_at "at")⟩ | exact tyl_of (by walk_at "at") | exact Or.inl (SqL.of (by walk_at "at")) | exact Or.inr (SqT.of (by walk_at "at")) | exact Or.inl (by walk_at "at") | exact size_le (Nat.le_of_ble_eq_true rfl) | exact Nat.le_of_ble_eq_true rfl | exact True.intro | exact Or.inl rfl | exact Or.inr rfl | (show (_ : Prop); assumption) | (show (_ : Prop); omega) | (show (_ : Prop); dsimp only; omega) | exact mulw64 (by omega) (by omega) | exact mulw64 (by (try dsimp only); omega) (by (try dsimp only); omega) | fail))
local macro_rules | `(tactic| walk_at "go") => `(tactic| repeat walk_at "g1")

section
variable {P : Program} {w : World} {K : PySem.W.Frag} {mg : Str → Option Value} {base : Heap}
theorem sh_i1 (q : Int) : SeqAt.shaped (.list [.int q]) = true := sh_ints [q]
theorem sh_i2 (p q : Int) : SeqAt.shaped (.list [.int p, .int q]) = true := sh_ints [p, q]
theorem sh_ow (os : List OR) : SeqAt.shaped (.list (os.map owD)) = true := by
  have l : PyData.canLayAll0 (os.map owD) = true := by
    induction os with
    | nil => simp [PyData.canLayAll0]
    | cons x xs ih => simp [PyData.canLayAll0, owD, PyData.canLay0]; simpa using ih
  have d : PyData.depthAll (os.map owD) ≤ 2 := by
    clear l
    induction os with
    | nil => simp [PyData.depthAll]
    | cons x xs ih =>
      have : (owD x).depth ≤ 2 := by simp [owD, PyData.depth, PyData.depthAll]
      simp only [List.map_cons, PyData.depthAll]
      omega
  show (PyData.canLay0 _ && decide (PyData.depth _ ≤ 64)) = true
  rw [Bool.and_eq_true]
  refine ⟨by simp only [PyData.canLay0]; exact l, decide_eq_true ?_⟩
  simp only [PyData.depth]
  omega
theorem sh_nil : SeqAt.shaped (.list []) = true := by decide
theorem eqv_nil (ds : List PyData) : PyData.eqv (.list ds) (.list []) = decide (ds = []) := by cases ds <;> simp [PyData.eqv, PyData.eqvAll]
def sp_Lseen (K : PySem.W.Frag) (C : Addr) : Sp := fun vs H Q _ => ∃ (x dx t d wo : Addr) (m f : Int) (os : List OR) (R : List (Addr × Ob)) (P : List Pf), vs = [.ref x, .ref wo, .int f, .int m] ∧ Own K H (obk C x dx t d m f os ++ ((wo, .L (os.map owD)) :: R)) P ∧ (0 ≤ f ∧ f ≤ 1000) ∧ os.length ≤ 100 ∧
  ∀ (H' : Hp) (P' : List Pf), Ps P P' → Own K H' (obk C x dx t d m f os ++ ((wo, .L (os.map owD)) :: R)) P' → Q (.bl true) H'
theorem ok_Lseen (T : Txt K mg) : FnOk P w K mg base CX0 6 T.f_Lseen T.fd_Lseen ["_law_orders", "_law_own", "_law_first", "_law_many"] (sp_Lseen K T.C_Orders) := by
  have G_Orders_many := ok_Orders_many (P := P) (w := w) (base := base) T
  have G_Orders_numbers := ok_Orders_numbers (P := P) (w := w) (base := base) T
  have G_Orders_upcoming := ok_Orders_upcoming (P := P) (w := w) (base := base) T
  have G_Orders_held := ok_Orders_held (P := P) (w := w) (base := base) T
  have G_Orders_oldest := ok_Orders_oldest (P := P) (w := w) (base := base) T
  have G_Orders_thing := ok_Orders_thing (P := P) (w := w) (base := base) T
  have G_Orders_is_done := ok_Orders_is_done (P := P) (w := w) (base := base) T
  refine T.F_Lseen.ok sc_Lseen (fun vs H Q E h => ?_) (fun cdv A outer s H vs Q E hr h => ?_)
  · obtain ⟨x, dx, t, d, wo, m, f, os, R, P, rfl, hO, hf, hl1, k⟩ := h; rfl
  · obtain ⟨x, dx, t, d, wo, m, f, os, R, P, rfl, hO, hf, hl1, k⟩ := h
    refine ⟨_, (pss_cons (ps_if (PW.pt (pw_or (pt_cmpR (op_neS hr.units) (pe_meth0 (pv 0) T.cl_Orders T.me_Orders_numbers G_Orders_numbers (hr.mono (by decide)) T.b_Orders_numbers .nil pass0) (pe_lc (own := [("_law_at", 4)]) (g := gName 4) (tt := tYes) rfl sc_Lseen.nd (pi_range1 rfl T.m_range (pa_cons (pe_callB call_len_list (by rfl) T.m_len (by decide +kernel) (pa_cons (pv 1) pa_nil)) pa_nil)) (blkOk_by (N := ["_law_orders", "_law_own", "_law_first", "_law_many", "_law_at", "_law_thing", "_law_is_done"]) (sc := defScope s_Lseen) (by decide +kernel)) (fun _ _ _ _ _ => pg_name (i := 4) sc_Lseen.nd rfl (Or.inl rfl)) (fun _ _ _ _ _ => pts_nil) (fun _ _ _ _ _ => (pe_op op_add (pv 2) (pv 4)))) (nomark _)) (pw_or1 (pt_cmpR op_ne (pe_prop (pv 0) T.cl_Orders T.p_Orders_many G_Orders_many (hr.mono (by decide)) T.b_Orders_many .nil pass0 rfl) (pv 3) (nomark _)))))
          (pss_one (ps_ret pe_bl))
          pss_nil)
        (pss_cons (ps_if (pt_cmpR (op_neS hr.units) (pe_lst (pa_cons (pe_prop (pv 0) T.cl_Orders T.p_Orders_held G_Orders_held (hr.mono (by decide)) T.b_Orders_held .nil pass0 rfl) (pa_cons (pe_prop (pv 0) T.cl_Orders T.p_Orders_upcoming G_Orders_upcoming (hr.mono (by decide)) T.b_Orders_upcoming .nil pass0 rfl) pa_nil))) (pe_lst (pa_cons (pe_callB call_len_list (by rfl) T.m_len (by decide +kernel) (pa_cons (pv 1) pa_nil)) (pa_cons (pe_op op_add (pv 2) (pe_callB call_len_list (by rfl) T.m_len (by decide +kernel) (pa_cons (pv 1) pa_nil))) pa_nil))) (nomark _))
          (pss_one (ps_ret pe_bl))
          pss_nil)
        (pss_cons (ps_if (pt_mid (pt_cmpR op_ne (pe_meth0 (pv 0) T.cl_Orders T.me_Orders_oldest G_Orders_oldest (hr.mono (by decide)) T.b_Orders_oldest .nil pass0) (pe_ifExp (pt_cmpR (op_neD hr.units) (pv 1) (pe_lst pa_nil) (nomark _)) (pv 2) pe_non) (nomark _)))
          (pss_one (ps_ret pe_bl))
          pss_nil)
        (pss_cons (ps_forS PassesOwn.never rfl (pi_enum rfl T.m_enumerate (pa_cons (pv 1) pa_nil)) (pg_tup rfl (pgs_cons (pg_name (i := 4) sc_Lseen.nd rfl (Or.inl rfl)) (pgs_cons (pg_tup rfl (pgs_cons (pg_name (i := 5) sc_Lseen.nd rfl (Or.inl rfl)) (pgs_cons (pg_name (i := 6) sc_Lseen.nd rfl (Or.inl rfl)) pgs_nil))) pgs_nil)))
          (pss_cons (ps_if (pt_cmpR (op_neS hr.units) (pe_meth (pv 0) T.cl_Orders T.me_Orders_thing G_Orders_thing (hr.mono (by decide)) T.b_Orders_thing .nil pass0 (pa_cons (pe_op op_add (pv 2) (pv 4)) pa_nil)) (pv 5) (nomark _))
            (pss_one (ps_ret pe_bl))
            pss_nil)
          (pss_one (ps_if (pt_cmpR op_ne (pe_callB call_repr_bl (by rfl) T.m_repr (by decide +kernel) (pa_cons (pe_meth (pv 0) T.cl_Orders T.me_Orders_is_done G_Orders_is_done (hr.mono (by decide)) T.b_Orders_is_done .nil pass0 (pa_cons (pe_op op_add (pv 2) (pv 4)) pa_nil)) pa_nil)) (pe_callB call_repr_bl (by rfl) T.m_repr (by decide +kernel) (pa_cons (pv 6) pa_nil)) (nomark _))
            (pss_one (ps_ret pe_bl))
            pss_nil))))
        (pss_one (ps_ret pe_bl)))))), ?_⟩
    clear G_Orders_many G_Orders_numbers G_Orders_upcoming G_Orders_held G_Orders_oldest G_Orders_thing G_Orders_is_done
    clear hr
    obtain ⟨vw, o1⟩ := hO.openL (a := wo) (by walk_at "mem")
    replace hO := o1 _ (by walk_at "setat")
    clear o1
    have hvw := (hO.pdp List.mem_cons_self).len
    rw [List.length_map] at hvw
    have szw : vw.length ≤ sizeLine := size_le (by omega)
    walk_at "go"
    intro p1 H1 hO
    walk_at "go"
    intro D hD
    refine lc_rawW (walk_range (n := vw.length)) ((List.range os.length).map fun i => V.int (f + (i : Nat))) hO hD (by rw [List.length_map, List.length_range]; exact hvw) (by omega) (fun _ _ _ _ _ _ => trivial) (fun i x y H H' P' Q hi hY hy sp hO kq => ?_) (fun H2 P2 sp2 hO => ?_)
    · obtain ⟨rfl, rfl⟩ := hY
      rw [List.getElem?_map, List.getElem?_range (by omega)] at hy
      obtain rfl : V.int (f + (i : Nat)) = y := Option.some.inj hy
      walk_at "go"
      show Q (.int (f + (0 + (i : Nat)))) _
      rw [Int.zero_add]
      exact kq _ _ Ps.refl hO
    have em : (List.range os.length).map (fun i => V.int (f + (i : Nat))) = ((List.range os.length).map fun i => f + (i : Nat)).map V.int := by rw [List.map_map]; rfl
    rw [em] at hO
    clear em
    have S1 := sh_ints ((List.range os.length).map fun i => f + (i : Nat))
    walk_at "go"
    refine iteN (fun h => absurd rfl h) (fun _ => ?_)
    have S2 := sh_i2 ((os.length : Nat) : Int) (f + ((os.length : Nat) : Int))
    clear S1
    walk_at "go"
    · rw [← hvw]
      exact Dp.lst (SqL.of (hO.raw (by walk_at "mem"))) (.cons (.int _) (.cons (.int _) .nil))
    refine ⟨S2, ?_⟩
    clear S2
    have mvw : Pf.dp vw (os.map owD) ∈ P2 := sp2 _ List.mem_cons_self
    walk_at "go"
    refine Stop.mk ⟨fun b' H' => Stop (b' = false ∧ ∃ P', Ps P2 P' ∧ Own K H' (obk T.C_Orders x dx t d m f os ++ ((wo, .raw (.lst vw)) :: R)) P'), ?_, fun b' H' hM => ?_⟩
    · have S1 := sh_ow os
      have S3 := sh_nil
      replace hO := hO.dv (Dv.of mvw)
      cases os with
      | nil =>
        walk_at "go"
        exact ⟨⟨by simp, P2, Ps.refl, by walk_at "fin"⟩⟩
      | cons r0 os2 =>
        walk_at "go"
        exact ⟨⟨by simp, P2, Ps.refl, by walk_at "fin"⟩⟩
    clear hO
    obtain ⟨rfl, P3, sp3, hO⟩ := hM.h
    clear hM
    replace mvw := sp3 _ mvw
    walk_at "go"
    refine ⟨for_it (walk_enum (xs := vw)) (fun i σ H' => Stop (∃ (t4 t5 t6 : Option V) (P' : List Pf), σ = [some (.ref x), some (.ref wo), some (.int f), some (.int m), t4, t5, t6] ∧ Ps P3 P' ∧ Own K H' (obk T.C_Orders x dx t d m f os ++ ((wo, .raw (.lst vw)) :: R)) P')) ⟨⟨none, none, none, P3, rfl, Ps.refl, hO⟩⟩ (fun i σ H' hi h => ?_) (fun i v σ H1 H' hi h hY => ?_) (fun σ H' h => ?_)⟩
    · obtain ⟨t4, t5, t6, P', rfl, sp, hO⟩ := h.h
      exact SqL.of (hO.raw (by walk_at "mem"))
    · clear hO
      obtain ⟨t4, t5, t6, P', rfl, sp, hO⟩ := h.h
      clear h
      obtain ⟨t0, u, v2, rfl, hT, rfl, e1, e2⟩ := hY
      obtain rfl : V.int (i : Nat) = u := Option.some.inj e1
      have e3 : vw[i]? = some v2 := e2
      obtain ⟨r, hg⟩ : ∃ r, os[i]? = some r := ⟨os[i]'(by omega), List.getElem?_eq_getElem _⟩
      replace hO := hO.newT (vs := [.int (i : Nat), v2]) hT rfl
      obtain ⟨t1, a', b', ev, hO⟩ := hO.opn2 (x := .list [.int r.1]) (y := .bool r.2) (Dv.get (vs := vw) (ds := os.map owD) (Dv.of (List.mem_cons_of_mem _ (sp _ mvw))) e3 (by rw [List.getElem?_map, hg]; rfl))
      obtain rfl : V.bl r.2 = b' := by cases hO.one (Dv1.of (v := b') (d := .bool r.2) (by walk_at "mem")); rfl
      rw [ev] at hO ⊢
      have da : Dv1 K _ a' (.list [.int r.1]) := Dv1.of (P := Pf.sq t1 [a', .bl r.2] :: Pf.dp [a'] [.list [.int r.1]] :: Pf.dp [.bl r.2] [.bool r.2] :: Pf.tup t0 [.int (i : Nat), .ref t1] :: P') (by walk_at "mem")
      generalize upd H1 t0 (.tup [.int (i : Nat), .ref t1]) = H3 at hO ⊢
      have S1 := sh_i1 r.1
      walk_at "go"
      intro v P4 sp4 dv hO
      have d1 : Dp K H3 v (.list [.int r.1]) := hO.one dv
      have d2 : Dp K H3 a' (.list [.int r.1]) := hO.one (da.mono sp4)
      have hf0 := hf.1
      walk_at "go"
      refine iteN (fun h => absurd rfl h) (fun _ => ?_)
      walk_at "go"
      exact ⟨⟨_, _, _, P4, rfl, sp.trans ((Ps.skip (Ps.skip (Ps.skip (Ps.skip Ps.refl)))).trans sp4), hO⟩⟩
    · clear hO
      obtain ⟨t4, t5, t6, P', rfl, sp, hO⟩ := h.h
      clear h
      walk_at "go"
      refine k _ P' ((Ps.skip Ps.refl).trans (sp2.trans (sp3.trans sp))) ?_
      walk_at "fin"
      exact Dv.of (sp _ mvw)
end
end K71

set_option Elab.async false
set_option linter.all false
set_option maxRecDepth 100000
set_option maxHeartbeats 8000000

namespace K71
open PySem PySem.Spec PyProof.Rows L2 Hx 
local macro_rules | `(tactic| walk_at "sm") => `(tactic| repeat' (first | assumption | apply Hx.Same.upd | exact L2.Same.refl _ | apply same_trans'))
local macro_rules | `(tactic| walk_at "hp") => `(tactic| repeat' (first | assumption | exact upd_same | apply old_upd | apply same_at))
local macro_rules | `(tactic| walk_at "rd") => `(tactic| repeat' (first | rfl | apply Exists.intro | apply And.intro | refine iteT ?_ | refine iteF ?_ | exact upd_same | exact SqL.of (by assumption) | exact SqL.of upd_same | exact SqT.of upd_same | exact SqT.of (by assumption) | ((with_reducible show (_ : Int) < _); omega) | ((with_reducible show (_ : Int) ≤ _); omega) | (show (_ : Prop); assumption) | exact Or.inl ⟨_, by assumption, rfl⟩ | exact Or.inl ⟨rfl, _, SqL.of (by assumption)⟩ | exact Or.inl ⟨rfl, _, SqL.of upd_same⟩ | apply old_upd | apply Hx.SqL.new | apply tyl_new | apply Pot.new | exact same_at (by assumption) (by assumption) | exact Or.inl (SqL.of (by assumption)) | exact Or.inl (by assumption) | exact Or.inl (SqL.of upd_same) | exact size_le (Nat.le_of_ble_eq_true rfl) | exact Nat.le_of_ble_eq_true rfl | exact True.intro | exact Or.inl rfl | exact Or.inr rfl | (show (_ : Prop); omega) | (show (_ : Prop); dsimp only; omega) | exact mulw64 (by omega) (by omega) | exact mulw64 (by (try dsimp only); omega) (by (try dsimp only); omega)))
set_option hygiene false in
local macro_rules | `(tactic| walk_at "fl") => `(tactic| simp only [pu_Orders_many, pi_Orders_many, pu_Orders_first, pi_Orders_first, pu_Orders_things, pi_Orders_things, pu_Orders_dones, pi_Orders_dones] at hO)
local macro_rules | `(tactic| walk_at "mem") => `(tactic| ((repeat (first | exact List.Mem.head _ | apply List.Mem.tail | fail)); done))
local macro_rules | `(tactic| walk_at "setat") => `(tactic| ((repeat (first | (with_reducible exact At.head) | (with_reducible apply At.tail) | (with_reducible apply At.app) | fail)); done))
set_option hygiene false in
local macro_rules | `(tactic| walk_at "dv") => `(tactic| ((repeat' (first | exact Dv.nil | exact Dv.of (by walk_at "mem") | exact Dv.ints _ | exact Dv1.of (by walk_at "mem") | exact Dv1.int _ | exact Dv1.non | exact Dv1.bl _ | exact Dv1.str _ | (with_reducible apply Dv.cons) | refine Dv1.tup (by walk_at "mem") ?_ | refine Dv1.lst (by walk_at "mem") ?_ | (with_reducible apply Dv.app) | fail)); done))
local macro_rules | `(tactic| walk_at "ft") => `(tactic| (first | (with_reducible exact Ft.refl) | ((with_reducible apply Ft.toL); focus walk_at "dv") | ((with_reducible apply Ft.toS); focus assumption) | (with_reducible apply Ft.lst) | (with_reducible apply Ft.Le) | (with_reducible apply Ft.dK) | (with_reducible apply Ft.De) | (with_reducible apply Ft.ins) | (with_reducible apply Ft.toL) | (with_reducible apply Ft.toS) | (with_reducible apply Ft.toD) | fail))
local macro_rules | `(tactic| walk_at "sbL") => `(tactic| repeat' (first | (with_reducible exact Sb.refl _) | exact Sb.nil | (with_reducible apply Sb.cons) | (with_reducible apply Sb.app) | (with_reducible exact Pk.one) | (with_reducible exact Pk.here) | (with_reducible exact Pk.all) | (with_reducible apply Pk.skip1) | (with_reducible apply Pk.skipB) | (with_reducible apply Sb.skip) | (with_reducible apply Sb.skipB) | ((with_reducible show Ft _ _ _ _); walk_at "ft") | ((with_reducible show (_ : List _) = _); (first | rfl | (simp [List.map_set, List.map_append]; done) | fail)) | fail))
local macro_rules | `(tactic| walk_at "sb") => `(tactic| ((walk_at "sbL"); done))
local macro_rules | `(tactic| walk_at "ps") => `(tactic| ((repeat' (first | (with_reducible exact Ps.refl) | exact Ps.nil | (with_reducible apply Ps.cons) | exact List.Mem.head _ | apply List.Mem.tail | (with_reducible apply Ps.skip) | fail)); done))
set_option hygiene false in
local macro_rules | `(tactic| walk_at "at") => `(tactic| first | assumption | exact Own.raw hO (by walk_at "mem") | exact Own.ptup hO (by walk_at "mem") | exact Own.plst hO (by walk_at "mem") | fail)
set_option hygiene false in
local macro_rules | `(tactic| walk_at "st") => `(tactic| (rw [upd_mkO hO]; generalize e : updX _ _ _ = H1; (first | ((apply Own.cset hO e); (focus walk_at "setat"); (try clear hO e); intro hO) | ((apply Own.cnewT hO e); (focus assumption); (try clear hO e); intro hO) | ((apply Own.cnew hO e); (focus assumption); (try clear hO e); intro hO) | fail)))
set_option hygiene false in
local macro_rules | `(tactic| walk_at "mk") => `(tactic| (intro p1 p2 f1 f2 f3; rw [upd_mkO hO]; generalize e : upd (updX _ _ _) _ _ = H1; apply Own.cmake hO f1 f2 f3 e; (try clear hO e); intro hO))
set_option hygiene false in
local macro_rules | `(tactic| walk_at "own") => `(tactic| (first | ((apply Own.sub hO); (focus walk_at "sb"); (focus walk_at "ps")) | ((apply Own.sub hF); (focus walk_at "sb"); (focus walk_at "ps")) | fail))
set_option hygiene false in
local macro_rules | `(tactic| walk_at "fin") => `(tactic| (refine Own.sub hO ?_ (by walk_at "ps"); walk_at "sbL"))
set_option hygiene false in
local macro_rules | `(tactic| walk_at "g1") => `(tactic| (first
 | ((with_reducible show (_ : Option HO) = _); walk_at "at")
 | ((with_reducible show (_ : Int) < _); omega) | ((with_reducible show (_ : Int) ≤ _); omega)
 | ((with_reducible show (_ : Nat) < _); (first | assumption | exact Nat.le_of_ble_eq_true rfl | exact size_lt (Nat.le_of_ble_eq_true rfl) | omega | (simp; done) | (simp; omega) | fail))
 | ((with_reducible show (_ : Nat) ≤ _); (first | assumption | exact Nat.le_of_ble_eq_true rfl | exact size_le (Nat.le_of_ble_eq_true rfl) | omega | (simp; done) | (simp; omega) | fail))
 | ((with_reducible show Own _ _ _ _); (first | walk_at "own" | (walk_at "st"; walk_at "own") | fail))
 | ((with_reducible show SqL _ _ _ _); (first | assumption | exact SqL.of (by walk_at "at") | fail))
 | ((with_reducible show SqT _ _ _ _); (first | assumption | exact hO.psq (by walk_at "mem") | exact SqT.of (by walk_at "at") | fail))
  | ((with_reducible show Cls _ _); exact Txt.cl_Orders T) | ((with_reducible show NoAttr _ _ _); exact Txt.n_Orders_many T) | (with_reducible exact gt_Orders_many) | ((with_reducible show NoAttr _ _ _); exact Txt.n_Orders_first T) | (with_reducible exact gt_Orders_first) | ((with_reducible show NoAttr _ _ _); exact Txt.n_Orders_things T) | (with_reducible exact gt_Orders_things) | ((with_reducible show NoAttr _ _ _); exact Txt.n_Orders_dones T) | (with_reducible exact gt_Orders_dones)  | ((with_reducible show V.ref _ = V.ref _); (first | rfl | fail))
 | ((with_reducible show DGet _ _ _ _); (first | exact DGet.ki (by walk_at "at") (by assumption) | exact DGet.kiF (by walk_at "at") (by assumption) | fail))
 | ((with_reducible show DPut _ _ _ _ _); exact DPut.ki (by walk_at "at") (by assumption))
 | ((with_reducible show Rd _ _ _); (first | exact Or.inl (by walk_at "at") | exact Or.inr ⟨_, by walk_at "at"⟩ | fail))
 | ((with_reducible show (∃ _ : List (Key × V), _) ∨ _); refine Or.inl ⟨_, by walk_at "at", ?_⟩)
 | ((with_reducible show Dv _ _ _ _); focus walk_at "dv") | ((with_reducible show Dv1 _ _ _ _); focus walk_at "dv")
 | ((with_reducible show IsD _ _); exact Or.inl ⟨_, Or.inl (by walk_at "at")⟩)
 | ((with_reducible show V.int _ = kV _); exact kV_int)
 | ((with_reducible show Option.isSome _ = true); (first | exact isSome_ofV (by assumption) | assumption | fail))
 | ((with_reducible show SqL _ _ _ _ ∨ SqT _ _ _ _); (first | exact Or.inl (by assumption) | exact Or.inr (by assumption) | exact Or.inl (SqL.of (by walk_at "at")) | exact Or.inr (SqT.of (by walk_at "at")) | fail))
 | ((with_reducible show Dp _ _ _ _); (first | assumption | exact hO.dpL (by walk_at "mem") | exact .lst (SqL.of (by walk_at "at")) (hO.all (by walk_at "dv")) | exact hO.one (by walk_at "dv") | fail))
 | ((with_reducible show TruV _ _ _ _); (first | exact Or.inl ⟨_, SqL.of (by walk_at "at"), rfl⟩ | exact Or.inr (Or.inr ⟨_, by walk_at "at", rfl⟩) | exact Or.inr (Or.inl ⟨_, SqT.of (by walk_at "at"), rfl⟩) | fail))
 | ((with_reducible show RgOk _ _); exact RgOk.of_le (by omega) (by omega) (by omega) (by omega))
 | rfl | (with_reducible assumption) | apply And.intro | apply Exists.intro | refine iteT ?_ | refine iteF ?_
 | (walk_at "st"; (try walk_at "fl"))
 | ((with_reducible show ∀ _ : Addr, _ = none → _); (fail_if_success (with_reducible show ∀ _ : Addr, _ = none → ∃ _ : Nat → Nat → Hp → Prop, _)); intro p fp; walk_at "st")
 | (refine Or.inl ⟨SqL.of (by walk_at "at"), ?_⟩) | (refine Or.inr ⟨SqT.of (by walk_at "at"), ?_⟩) | exact Or.inl ⟨_, by walk_at "at", rfl⟩ | exact Or.inl ⟨rfl, _, SqL.of (by walk_at "at")⟩ | exact tyl_of (by walk_at "at") | exact Or.inl (SqL.of (by walk_at "at")) | exact Or.inr (SqT.of (by walk_at "at")) | exact Or.inl (by walk_at "at") | exact size_le (Nat.le_of_ble_eq_true rfl) | exact Nat.le_of_ble_eq_true rfl | exact True.intro | exact Or.inl rfl | exact Or.inr rfl | (show (_ : Prop); assumption) | (show (_ : Prop); omega) | (show (_ : Prop); dsimp only; omega) | exact mulw64 (by omega) (by omega) | exact mulw64 (by (try dsimp only); omega) (by (try dsimp only); omega) | fail))
local macro_rules | `(tactic| walk_at "go") => `(tactic| repeat walk_at "g1")

section
variable {P : Program} {w : World} {K : PySem.W.Frag} {mg : Str → Option Value} {base : Heap}
def dueD (f : Int) (z : OR × Nat) : PyData := .tuple [.int (f + (z.2 : Nat)), .list [.int z.1.1]]
theorem zip_ge {α : Type} (os : List α) (k : Nat) : ∀ j : Nat, (os.zipIdx j).filter (fun z => decide (j + k ≤ z.2)) = (os.drop k).zipIdx (j + k) := by
  induction os generalizing k with
  | nil => intro j; simp
  | cons o os ih =>
    intro j
    cases k with
    | zero =>
      rw [Nat.add_zero, List.drop_zero, List.filter_eq_self]
      intro z hz
      exact decide_eq_true (List.le_snd_of_mem_zipIdx hz)
    | succ k =>
      rw [List.zipIdx_cons, List.filter_cons, if_neg (by simp), List.drop_succ_cons]
      have := ih k (j + 1)
      rw [show j + (k + 1) = j + 1 + k from by omega]
      exact this
theorem due_eq (os : List OR) (f : Int) (k : Nat) : (os.zipIdx.filter fun z => decide (k ≤ z.2)).map (dueD f) = enumD (f + (k : Nat)) ((os.drop k).map thD) := by
  have h := zip_ge os k 0
  simp only [Nat.zero_add] at h
  rw [h]
  refine List.ext_getElem? fun i => ?_
  rw [List.getElem?_map, List.getElem?_zipIdx]
  cases e : (os.drop k)[i]? with
  | none =>
    have : (enumD (f + (k : Nat)) ((os.drop k).map thD))[i]? = none := by
      rw [List.getElem?_eq_none_iff, enumD_len, List.length_map]
      exact List.getElem?_eq_none_iff.mp e
    rw [this]; rfl
  | some o =>
    rw [enumD_at (d := thD o) (by rw [List.getElem?_map, e]; rfl)]
    show some (dueD f (o, k + i)) = _
    rw [dueD, thD, show f + ((k + i : Nat) : Int) = f + (k : Int) + (i : Int) from by omega]
theorem sh_due (f : Int) (zs : List (OR × Nat)) : SeqAt.shaped (.list (zs.map (dueD f))) = true := by
  have l : PyData.canLayAll0 (zs.map (dueD f)) = true := by
    induction zs with
    | nil => simp [PyData.canLayAll0]
    | cons x xs ih => simp [PyData.canLayAll0, dueD, PyData.canLay0]; simpa using ih
  have d : PyData.depthAll (zs.map (dueD f)) ≤ 2 := by
    clear l
    induction zs with
    | nil => simp [PyData.depthAll]
    | cons x xs ih =>
      have : (dueD f x).depth ≤ 2 := by simp [dueD, PyData.depth, PyData.depthAll]
      simp only [List.map_cons, PyData.depthAll]
      omega
  show (PyData.canLay0 _ && decide (PyData.depth _ ≤ 64)) = true
  rw [Bool.and_eq_true]
  refine ⟨by simp only [PyData.canLay0]; exact l, decide_eq_true ?_⟩
  simp only [PyData.depth]
  omega
def sp_Ldrop (K : PySem.W.Frag) (C : Addr) : Sp := fun vs H Q _ => ∃ (x dx t d wo : Addr) (m f n : Int) (kp : Nat) (os : List OR) (R : List (Addr × Ob)) (P : List Pf), vs = [.ref x, .ref wo, .int f, .int n] ∧ Own K H (obk C x dx t d m f os ++ ((wo, .L (os.map owD)) :: R)) P ∧ 0 ≤ n ∧ (0 ≤ f ∧ f ≤ 1000) ∧ (kp : Int) = (if n - f < 0 then 0 else n - f) ∧ kp ≤ 1000 ∧ os.length ≤ 100 ∧
  ∀ (H' : Hp) (P' : List Pf), Ps P P' → Own K H' (obk C x dx t d m f (os.take kp) ++ ((wo, .L (os.map owD)) :: R)) P' → Q (.bl true) H'
theorem ok_Ldrop (T : Txt K mg) : FnOk P w K mg base CX0 5 T.f_Ldrop T.fd_Ldrop ["_law_orders", "_law_own", "_law_first", "_law_number"] (sp_Ldrop K T.C_Orders) := by
  have G_Orders_dropped := ok_Orders_dropped (P := P) (w := w) (base := base) T
  refine T.F_Ldrop.ok sc_Ldrop (fun vs H Q E h => ?_) (fun cdv A outer s H vs Q E hr h => ?_)
  · obtain ⟨x, dx, t, d, wo, m, f, n, kp, os, R, P, rfl, hO, hn0, hf, hkp, hk1, hl1, k⟩ := h; rfl
  · obtain ⟨x, dx, t, d, wo, m, f, n, kp, os, R, P, rfl, hO, hn0, hf, hkp, hk1, hl1, k⟩ := h
    refine ⟨_, (pss_cons (ps_set (i := 4) sc_Ldrop.nd rfl (Or.inl rfl) (pe_meth (pv 0) T.cl_Orders T.me_Orders_dropped G_Orders_dropped (hr.mono (by decide)) T.b_Orders_dropped .nil pass0 (pa_cons (pv 3) pa_nil)))
        (pss_cons (ps_set (i := 5) sc_Ldrop.nd rfl (Or.inr rfl) (pe_callB (call_max2 rfl) (by rfl) T.m_max (by decide +kernel) (pa_cons pe_int (pa_cons (pe_op op_sub (pv 3) (pv 2)) pa_nil))))
        (pss_cons (ps_setLc (i := 6) (own := [("_law_at", 7), ("_law_thing", 8), ("_law_is_done", 9)]) (g := gTup _ 2 (gCons (gName 7) (gCons (gTup _ 2 (gCons (gName 8) (gCons (gName 9) gNil))) gNil)))  rfl sc_Ldrop.nd rfl rfl (sw_true rfl rfl rfl (by decide +kernel)) (pi_enum rfl T.m_enumerate (pa_cons (pv 1) pa_nil)) (blkOk_by (N := ["_law_orders", "_law_own", "_law_first", "_law_number", "_law_told", "_law_kept", "_law_due", "_law_at", "_law_thing", "_law_is_done"]) (sc := defScope s_Ldrop) (by decide +kernel)) (fun _ _ _ _ _ => pg_pairN (i := 7) (j := 8) (l := 9) rfl sc_Ldrop.nd rfl rfl rfl (Or.inl rfl) (Or.inl rfl) (Or.inl rfl)) (fun _ _ _ _ _ => pts_one (pt_cmpR op_ge (pv 7) (pv 5) (nomark _))) (fun _ _ _ _ _ => (pe_tup (pa_cons (pe_op op_add (pv 2) (pv 7)) (pa_cons (pv 8) pa_nil)))))
        (pss_one (ps_ret (pe_cmpR (op_eqS hr.units) (pv 4) (pe_revL (pv 6)) (nomark _))))))), ?_⟩
    clear G_Orders_dropped
    clear hr
    walk_at "go"
    intro p1 H1 P1 sp1 hO
    obtain ⟨vw, o1⟩ := hO.openL (a := wo) (by walk_at "mem")
    replace hO := o1 _ (by walk_at "setat")
    clear o1
    have hvw := (hO.pdp List.mem_cons_self).len
    rw [List.length_map] at hvw
    have ek : (if 0 < n - f then n - f else 0) = ((kp : Nat) : Int) := by rw [hkp]; split <;> split <;> omega
    walk_at "go"
    intro D hD
    refine lc_siftD os.zipIdx (dueD f) (fun z => decide (kp ≤ z.2)) (by rw [List.length_zipIdx, ← hvw]; exact walk_enum) hO hD (by rw [List.length_zipIdx]; omega) (fun H L' P' m t h => SqL.of (h.raw (m _ (by walk_at "mem")))) (fun i z xv H9 H' P' ds2 Qn Qy hz2 hY sp hO kn ky => ?_) (fun H2 P2 sp2 hO => ?_)
    · obtain ⟨t0, u, v2, rfl, hT, rfl, e1, e2⟩ := hY
      obtain rfl : V.int (i : Nat) = u := Option.some.inj e1
      rw [List.getElem?_zipIdx] at hz2
      obtain ⟨r, hg, rfl⟩ := Option.map_eq_some_iff.mp hz2
      have e3 : vw[i]? = some v2 := e2
      replace hO := hO.newT (vs := [.int (i : Nat), v2]) hT rfl
      obtain ⟨t1, a', b', ev, hO⟩ := hO.opn2 (x := .list [.int r.1]) (y := .bool r.2) (Dv.get (vs := vw) (ds := os.map owD) (Dv.of (List.mem_cons_of_mem _ (sp _ List.mem_cons_self))) e3 (by rw [List.getElem?_map, hg]; rfl))
      obtain rfl : V.bl r.2 = b' := by cases hO.one (Dv1.of (v := b') (d := .bool r.2) (by walk_at "mem")); rfl
      rw [ev] at hO ⊢
      have da : Dv1 K _ a' (.list [.int r.1]) := Dv1.of (P := Pf.sq t1 [a', .bl r.2] :: Pf.dp [a'] [.list [.int r.1]] :: Pf.dp [.bl r.2] [.bool r.2] :: Pf.tup t0 [.int (i : Nat), .ref t1] :: P') (by walk_at "mem")
      generalize upd H9 t0 (.tup [.int (i : Nat), .ref t1]) = H3 at hO ⊢
      rw [Nat.zero_add] at kn ky
      dsimp only at kn ky
      walk_at "go"
      refine iteD (fun h => ?_) (fun h => ?_)
      · have hk2 : ((kp : Nat) : Int) ≤ ((i : Nat) : Int) := by rw [← ek]; exact h
        walk_at "go"
        refine keepPs hO fun P4 mP4 sp4 hO => ?_
        exact ky (decide_eq_true (by omega)) _ _ P4 ((Ps.skip (Ps.skip (Ps.skip (Ps.skip Ps.refl)))).trans sp4) hO (Dv1.tup mP4 (Dv.cons (Dv1.int _) (Dv.cons (da.mono sp4) Dv.nil)))
      · have hk2 : ¬ ((kp : Nat) : Int) ≤ ((i : Nat) : Int) := by rw [← ek]; exact h
        exact kn (decide_eq_false (by omega)) _ _ (Ps.skip (Ps.skip (Ps.skip (Ps.skip Ps.refl)))) hO
    rw [due_eq] at hO
    have S1 : SeqAt.shaped (.list (enumD (f + (kp : Nat)) ((os.drop kp).map thD)).reverse) = true := by rw [← due_eq, ← List.map_reverse]; exact sh_due f _
    have mvw : Pf.dp vw (os.map owD) ∈ P2 := sp2 _ List.mem_cons_self
    obtain ⟨vg, o1⟩ := hO.openL (a := D) (by walk_at "mem")
    replace hO := o1 _ (by walk_at "setat")
    clear o1
    have hvg := (hO.pdp List.mem_cons_self).len
    rw [enumD_len, List.length_map, List.length_drop] at hvg
    have szg : vg.length ≤ sizeLine := size_le (by omega)
    replace hO := hO.dv ((Dv.of List.mem_cons_self : Dv K (Pf.dp vg (enumD (f + (kp : Nat)) ((os.drop kp).map thD)) :: P2) vg _).rev)
    walk_at "go"
    refine keepPs hO fun P4 mP4 sp4 hO => ?_
    have sp24 : Ps P2 P4 := (Ps.skip Ps.refl).trans sp4
    refine k _ P4 (sp1.trans ((Ps.skip Ps.refl).trans (sp2.trans sp24))) ?_
    walk_at "fin"
    exact Dv.of (sp24 _ mvw)
end
end K71

set_option Elab.async false
set_option linter.all false
set_option maxRecDepth 100000
set_option maxHeartbeats 8000000

namespace K71
open PySem PySem.Spec PyProof.Rows L2 Hx 
local macro_rules | `(tactic| walk_at "sm") => `(tactic| repeat' (first | assumption | apply Hx.Same.upd | exact L2.Same.refl _ | apply same_trans'))
local macro_rules | `(tactic| walk_at "hp") => `(tactic| repeat' (first | assumption | exact upd_same | apply old_upd | apply same_at))
local macro_rules | `(tactic| walk_at "rd") => `(tactic| repeat' (first | rfl | apply Exists.intro | apply And.intro | refine iteT ?_ | refine iteF ?_ | exact upd_same | exact SqL.of (by assumption) | exact SqL.of upd_same | exact SqT.of upd_same | exact SqT.of (by assumption) | ((with_reducible show (_ : Int) < _); omega) | ((with_reducible show (_ : Int) ≤ _); omega) | (show (_ : Prop); assumption) | exact Or.inl ⟨_, by assumption, rfl⟩ | exact Or.inl ⟨rfl, _, SqL.of (by assumption)⟩ | exact Or.inl ⟨rfl, _, SqL.of upd_same⟩ | apply old_upd | apply Hx.SqL.new | apply tyl_new | apply Pot.new | exact same_at (by assumption) (by assumption) | exact Or.inl (SqL.of (by assumption)) | exact Or.inl (by assumption) | exact Or.inl (SqL.of upd_same) | exact size_le (Nat.le_of_ble_eq_true rfl) | exact Nat.le_of_ble_eq_true rfl | exact True.intro | exact Or.inl rfl | exact Or.inr rfl | (show (_ : Prop); omega) | (show (_ : Prop); dsimp only; omega) | exact mulw64 (by omega) (by omega) | exact mulw64 (by (try dsimp only); omega) (by (try dsimp only); omega)))
set_option hygiene false in
local macro_rules | `(tactic| walk_at "fl") => `(tactic| simp only [pu_Orders_many, pi_Orders_many, pu_Orders_first, pi_Orders_first, pu_Orders_things, pi_Orders_things, pu_Orders_dones, pi_Orders_dones] at hO)
local macro_rules | `(tactic| walk_at "mem") => `(tactic| ((repeat (first | exact List.Mem.head _ | apply List.Mem.tail | fail)); done))
local macro_rules | `(tactic| walk_at "setat") => `(tactic| ((repeat (first | (with_reducible exact At.head) | (with_reducible apply At.tail) | (with_reducible apply At.app) | fail)); done))
set_option hygiene false in
local macro_rules | `(tactic| walk_at "dv") => `(tactic| ((repeat' (first | exact Dv.nil | exact Dv.of (by walk_at "mem") | exact Dv.ints _ | exact Dv1.of (by walk_at "mem") | exact Dv1.int _ | exact Dv1.non | exact Dv1.bl _ | exact Dv1.str _ | (with_reducible apply Dv.cons) | refine Dv1.tup (by walk_at "mem") ?_ | refine Dv1.lst (by walk_at "mem") ?_ | (with_reducible apply Dv.app) | fail)); done))
local macro_rules | `(tactic| walk_at "ft") => `(tactic| (first | (with_reducible exact Ft.refl) | ((with_reducible apply Ft.toL); focus walk_at "dv") | ((with_reducible apply Ft.toS); focus assumption) | (with_reducible apply Ft.lst) | (with_reducible apply Ft.Le) | (with_reducible apply Ft.dK) | (with_reducible apply Ft.De) | (with_reducible apply Ft.ins) | (with_reducible apply Ft.toL) | (with_reducible apply Ft.toS) | (with_reducible apply Ft.toD) | fail))
local macro_rules | `(tactic| walk_at "sbL") => `(tactic| repeat' (first | (with_reducible exact Sb.refl _) | exact Sb.nil | (with_reducible apply Sb.cons) | (with_reducible apply Sb.app) | (with_reducible exact Pk.one) | (with_reducible exact Pk.here) | (with_reducible exact Pk.all) | (with_reducible apply Pk.skip1) | (with_reducible apply Pk.skipB) | (with_reducible apply Sb.skip) | (with_reducible apply Sb.skipB) | ((with_reducible show Ft _ _ _ _); walk_at "ft") | ((with_reducible show (_ : List _) = _); (first | rfl | (simp [List.map_set, List.map_append]; done) | fail)) | fail))
local macro_rules | `(tactic| walk_at "sb") => `(tactic| ((walk_at "sbL"); done))
local macro_rules | `(tactic| walk_at "ps") => `(tactic| ((repeat' (first | (with_reducible exact Ps.refl) | exact Ps.nil | (with_reducible apply Ps.cons) | exact List.Mem.head _ | apply List.Mem.tail | (with_reducible apply Ps.skip) | fail)); done))
set_option hygiene false in
local macro_rules | `(tactic| walk_at "at") => `(tactic| first | assumption | exact Own.raw hO (by walk_at "mem") | exact Own.ptup hO (by walk_at "mem") | exact Own.plst hO (by walk_at "mem") | fail)
set_option hygiene false in
local macro_rules | `(tactic| walk_at "st") => `(tactic| (rw [upd_mkO hO]; generalize e : updX _ _ _ = H1; (first | ((apply Own.cset hO e); (focus walk_at "setat"); (try clear hO e); intro hO) | ((apply Own.cnewT hO e); (focus assumption); (try clear hO e); intro hO) | ((apply Own.cnew hO e); (focus assumption); (try clear hO e); intro hO) | fail)))
set_option hygiene false in
local macro_rules | `(tactic| walk_at "mk") => `(tactic| (intro p1 p2 f1 f2 f3; rw [upd_mkO hO]; generalize e : upd (updX _ _ _) _ _ = H1; apply Own.cmake hO f1 f2 f3 e; (try clear hO e); intro hO))
set_option hygiene false in
local macro_rules | `(tactic| walk_at "own") => `(tactic| (first | ((apply Own.sub hO); (focus walk_at "sb"); (focus walk_at "ps")) | ((apply Own.sub hF); (focus walk_at "sb"); (focus walk_at "ps")) | fail))
set_option hygiene false in
local macro_rules | `(tactic| walk_at "fin") => `(tactic| (refine Own.sub hO ?_ (by walk_at "ps"); walk_at "sbL"))
set_option hygiene false in
local macro_rules | `(tactic| walk_at "g1") => `(tactic| (first
 | ((with_reducible show (_ : Option HO) = _); walk_at "at")
 | ((with_reducible show (_ : Int) < _); omega) | ((with_reducible show (_ : Int) ≤ _); omega)
 | ((with_reducible show (_ : Nat) < _); (first | assumption | exact Nat.le_of_ble_eq_true rfl | exact size_lt (Nat.le_of_ble_eq_true rfl) | omega | (simp; done) | (simp; omega) | fail))
 | ((with_reducible show (_ : Nat) ≤ _); (first | assumption | exact Nat.le_of_ble_eq_true rfl | exact size_le (Nat.le_of_ble_eq_true rfl) | omega | (simp; done) | (simp; omega) | fail))
 | ((with_reducible show Own _ _ _ _); (first | walk_at "own" | (walk_at "st"; walk_at "own") | fail))
 | ((with_reducible show SqL _ _ _ _); (first | assumption | exact SqL.of (by walk_at "at") | fail))
 | ((with_reducible show SqT _ _ _ _); (first | assumption | exact hO.psq (by walk_at "mem") | exact SqT.of (by walk_at "at") | fail))
  | ((with_reducible show Cls _ _); exact Txt.cl_Orders T) | ((with_reducible show NoAttr _ _ _); exact Txt.n_Orders_many T) | (with_reducible exact gt_Orders_many) | ((with_reducible show NoAttr _ _ _); exact Txt.n_Orders_first T) | (with_reducible exact gt_Orders_first) | ((with_reducible show NoAttr _ _ _); exact Txt.n_Orders_things T) | (with_reducible exact gt_Orders_things) | ((with_reducible show NoAttr _ _ _); exact Txt.n_Orders_dones T) | (with_reducible exact gt_Orders_dones)  | ((with_reducible show V.ref _ = V.ref _); (first | rfl | fail))
 | ((with_reducible show DGet _ _ _ _); (first | exact DGet.ki (by walk_at "at") (by assumption) | exact DGet.kiF (by walk_at "at") (by assumption) | fail))
 | ((with_reducible show DPut _ _ _ _ _); exact DPut.ki (by walk_at "at") (by assumption))
 | ((with_reducible show Rd _ _ _); (first | exact Or.inl (by walk_at "at") | exact Or.inr ⟨_, by walk_at "at"⟩ | fail))
 | ((with_reducible show (∃ _ : List (Key × V), _) ∨ _); refine Or.inl ⟨_, by walk_at "at", ?_⟩)
 | ((with_reducible show Dv _ _ _ _); focus walk_at "dv") | ((with_reducible show Dv1 _ _ _ _); focus walk_at "dv")
 | ((with_reducible show IsD _ _); exact Or.inl ⟨_, Or.inl (by walk_at "at")⟩)
 | ((with_reducible show V.int _ = kV _); exact kV_int)
 | ((with_reducible show Option.isSome _ = true); (first | exact isSome_ofV (by assumption) | assumption | fail))
 | ((with_reducible show SqL _ _ _ _ ∨ SqT _ _ _ _); (first | exact Or.inl (by assumption) | exact Or.inr (by assumption) | exact Or.inl (SqL.of (by walk_at "at")) | exact Or.inr (SqT.of (by walk_at "at")) | fail))
 | ((with_reducible show Dp _ _ _ _); (first | assumption | exact hO.dpL (by walk_at "mem") | exact .lst (SqL.of (by walk_at "at")) (hO.all (by walk_at "dv")) | exact hO.one (by walk_at "dv") | fail))
 | ((with_reducible show TruV _ _ _ _); (first | exact Or.inl ⟨_, SqL.of (by walk_at "at"), rfl⟩ | exact Or.inr (Or.inr ⟨_, by walk_at "at", rfl⟩) | exact Or.inr (Or.inl ⟨_, SqT.of (by walk_at "at"), rfl⟩) | fail))
 | ((with_reducible show RgOk _ _); exact RgOk.of_le (by omega) (by omega) (by omega) (by omega))
 | rfl | (with_reducible assumption) | apply And.intro | apply Exists.intro | refine iteT ?_ | refine iteF ?_
 | (walk_at "st"; (try walk_at "fl"))
 | ((with_reducible show ∀ _ : Addr, _ = none → _); (fail_if_success (with_reducible show ∀ _ : Addr, _ = none → ∃ _ : Nat → Nat → Hp → Prop, _)); intro p fp; walk_at "st")
 | (refine Or.inl ⟨SqL.of (by walk_at "at"), ?_⟩) | (refine Or.inr ⟨SqT.of (by walk_at "at"), ?_⟩) | exact Or.inl ⟨_, by walk_at "at", rfl⟩ | exact Or.inl ⟨rfl, _, SqL.of (by walk_at "at")⟩ | exact tyl_of (by walk_at "at") | exact Or.inl (SqL.of (by walk_at "at")) | exact Or.inr (SqT.of (by walk_at "at")) | exact Or.inl (by walk_at "at") | exact size_le (Nat.le_of_ble_eq_true rfl) | exact Nat.le_of_ble_eq_true rfl | exact True.intro | exact Or.inl rfl | exact Or.inr rfl | (show (_ : Prop); assumption) | (show (_ : Prop); omega) | (show (_ : Prop); dsimp only; omega) | exact mulw64 (by omega) (by omega) | exact mulw64 (by (try dsimp only); omega) (by (try dsimp only); omega) | fail))
local macro_rules | `(tactic| walk_at "go") => `(tactic| repeat walk_at "g1")

section
variable {P : Program} {w : World} {K : PySem.W.Frag} {mg : Str → Option Value} {base : Heap}
abbrev AS := Addr × Addr × Addr × Addr × Addr × Int × List OR
def lD (q : Int) : PyData := .list [.int q]
def nq (os : List OR) : List Int := os.map fun r => r.1
/-- what is kept aside: orders of their own, their list -/
def asB (C : Addr) (m : Int) : Option AS → List (Addr × Ob)
  | none => []
  | some (y, dy, t, d, w2, f2, os2) => obk C y dy t d m f2 os2 ++ [(w2, .L (os2.map owD))]
def asOk (P : List Pf) (v : V) : Option AS → Prop
  | none => v = .non
  | some (y, _, _, _, w2, f2, os2) => (∃ tt, v = .ref tt ∧ Pf.tup tt [.ref y, .ref w2, .int f2] ∈ P) ∧ (0 ≤ f2 ∧ f2 ≤ 1000) ∧ os2.length ≤ 100
theorem asOk.mono {P P' : List Pf} {v : V} {o : Option AS} (h : asOk P v o) (s : Ps P P') : asOk P' v o := by
  cases o with
  | none => exact h
  | some a =>
    obtain ⟨⟨tt, e, m⟩, h2⟩ := h
    exact ⟨⟨tt, e, s _ m⟩, h2⟩
structure Iq (i : Nat) (m f mk : Int) (os : List OR) (ms : List Int) : Prop where
  f0 : 0 ≤ f ∧ f ≤ i
  mk0 : 0 ≤ mk ∧ mk ≤ i
  asc : (ms ++ nq os).Pairwise (· < ·)
  lt : ∀ z ∈ ms ++ nq os, 0 ≤ z ∧ z < mk
  sz : (os.length : Int) ≤ m
  len : (ms ++ nq os).length ≤ i
theorem nq_app (a b : List OR) : nq (a ++ b) = nq a ++ nq b := List.map_append
theorem Iq.start {m : Int} (h : 0 ≤ m) : Iq 0 m 0 0 [] [] := ⟨⟨by omega, by omega⟩, ⟨by omega, by omega⟩, List.Pairwise.nil, (fun _ h => nomatch h), by simpa using h, by simp [nq]⟩
theorem Iq.up {i : Nat} {m f mk : Int} {os : List OR} {ms : List Int} (h : Iq i m f mk os ms) : Iq (i + 1) m f mk os ms := by
  have f0 := h.f0; have m0 := h.mk0; have l := h.len
  exact ⟨by omega, by omega, h.asc, h.lt, h.sz, by omega⟩
theorem Iq.enter {i : Nat} {m f mk : Int} {os : List OR} {ms : List Int} (h : Iq i m f mk os ms) (hr : (os.length : Int) < m) : Iq (i + 1) m f (mk + 1) (os ++ [(mk, false)]) ms := by
  have f0 := h.f0; have m0 := h.mk0; have l := h.len
  refine ⟨by omega, by omega, ?_, fun z hz => ?_, by rw [List.length_append, List.length_singleton]; omega, by rw [nq_app, ← List.append_assoc, List.length_append]; simp [nq] at l ⊢; omega⟩
  · rw [nq_app, ← List.append_assoc, List.pairwise_append]
    refine ⟨h.asc, List.pairwise_singleton _ _, fun a ha b hb => ?_⟩
    simp [nq] at hb
    have := h.lt a ha
    omega
  · rw [nq_app, ← List.append_assoc] at hz
    rcases List.mem_append.mp hz with z1 | z1
    · have := h.lt z z1; omega
    · simp [nq] at z1; omega
theorem nq_set {os : List OR} {j : Nat} {q : Int} {b c : Bool} (hg : os[j]? = some (q, b)) : nq (os.set j (q, c)) = nq os := by
  refine List.ext_getElem? fun k => ?_
  rw [nq, nq, List.getElem?_map, List.getElem?_map, List.getElem?_set]
  by_cases e : j = k
  · subst e
    rw [if_pos rfl, if_pos (List.getElem?_eq_some_iff.mp hg).1, hg]; rfl
  · rw [if_neg e]
theorem Iq.done {i : Nat} {m f mk q : Int} {b : Bool} {j : Nat} {os : List OR} {ms : List Int} (h : Iq i m f mk os ms) (hg : os[j]? = some (q, b)) : Iq (i + 1) m f mk (os.set j (q, true)) ms := by
  have e : nq (os.set j (q, true)) = nq os := by
    refine List.ext_getElem? fun k => ?_
    rw [nq, nq, List.getElem?_map, List.getElem?_map, List.getElem?_set]
    by_cases c : j = k
    · subst c
      rw [if_pos rfl, if_pos (List.getElem?_eq_some_iff.mp hg).1, hg]; rfl
    · rw [if_neg c]
  have f0 := h.f0; have m0 := h.mk0; have l := h.len
  exact ⟨by omega, by omega, by rw [e]; exact h.asc, by rw [e]; exact h.lt, by rw [List.length_set]; exact h.sz, by rw [e]; omega⟩
theorem Iq.left {i : Nat} {m f mk : Int} {r : OR} {os : List OR} {ms : List Int} (h : Iq i m f mk (r :: os) ms) : Iq (i + 1) m (f + 1) mk os (ms ++ [r.1]) := by
  have e : ms ++ [r.1] ++ nq os = ms ++ nq (r :: os) := by simp [nq]
  have f0 := h.f0; have m0 := h.mk0; have l := h.len; have s := h.sz
  rw [List.length_cons] at s
  exact ⟨by omega, by omega, by rw [e]; exact h.asc, by rw [e]; exact h.lt, by omega, by rw [e]; omega⟩
theorem Iq.take {i : Nat} {m f mk : Int} {os : List OR} {ms : List Int} (h : Iq i m f mk os ms) (k : Nat) : Iq (i + 1) m f mk (os.take k) ms := by
  have sb : (ms ++ nq (os.take k)).Sublist (ms ++ nq os) := (List.Sublist.refl ms).append ((List.take_sublist k os).map _)
  have f0 := h.f0; have m0 := h.mk0; have l := h.len; have s := h.sz
  have s2 := sb.length_le
  exact ⟨by omega, by omega, h.asc.sublist sb, fun z hz => h.lt z (sb.subset hz), by rw [List.length_take]; omega, by omega⟩
theorem er_mid {α β : Type} (f : α → β) (A B : List α) (x : α) : ((A ++ x :: B).map f).eraseIdx A.length = (A ++ B).map f := by
  induction A with
  | nil => rfl
  | cons a A ih => simp only [List.cons_append, List.map_cons, List.length_cons, List.eraseIdx_cons_succ, ih]
theorem Iq.cut {i kp : Nat} {m f mk : Int} {os : List OR} {ms : List Int} (h : Iq i m f mk os ms) {q : Int} {r : OR} (hq : q ∈ ms ++ nq (os.take kp)) (hr : r ∈ os.drop kp) : q < r.1 := by
  have a := h.asc
  have e : ms ++ nq os = (ms ++ nq (os.take kp)) ++ nq (os.drop kp) := by rw [List.append_assoc, ← nq_app, List.take_append_drop]
  rw [e, List.pairwise_append] at a
  exact a.2.2 q hq r.1 (List.mem_map_of_mem hr)
theorem sh_lD (ns : List Int) : SeqAt.shaped (.list (ns.map lD)) = true := by
  have l : PyData.canLayAll0 (ns.map lD) = true := by
    induction ns with
    | nil => simp [PyData.canLayAll0]
    | cons x xs ih => simp [PyData.canLayAll0, lD, PyData.canLay0]; simpa using ih
  have d : PyData.depthAll (ns.map lD) ≤ 1 := by
    clear l
    induction ns with
    | nil => simp [PyData.depthAll]
    | cons x xs ih =>
      have : (lD x).depth ≤ 1 := by simp [lD, PyData.depth, PyData.depthAll]
      simp only [List.map_cons, PyData.depthAll]
      omega
  show (PyData.canLay0 _ && decide (PyData.depth _ ≤ 64)) = true
  rw [Bool.and_eq_true]
  refine ⟨by simp only [PyData.canLay0]; exact l, decide_eq_true ?_⟩
  simp only [PyData.depth]
  omega
theorem sh_fq (f q : Int) : SeqAt.shaped (.tuple [.int f, .list [.int q]]) = true := by simp [SeqAt.shaped, PyData.canLay0, PyData.canLayAll0, PyData.depth, PyData.depthAll]
def sp_Lright (K : PySem.W.Frag) : Sp := fun vs H Q _ => ∃ (a : Addr) (R : List (Addr × Ob)) (P : List Pf), vs = [.ref a] ∧ Own K H (pt a ++ R) P ∧ ∀ (H' : Hp), Q (.bl true) H'
theorem ok_Lright (T : Txt K mg) : FnOk P w K mg base CX0 7 T.f_Lright T.fd_Lright ["_law_pot_here"] (sp_Lright K) := by
  have G_Ldraw := ok_Ldraw (P := P) (w := w) (base := base) T
  have G_Orders_init := ok_Orders_init (P := P) (w := w) (base := base) T
  have G_Lpick := ok_Lpick (P := P) (w := w) (base := base) T
  have G_Orders_entered := ok_Orders_entered (P := P) (w := w) (base := base) T
  have G_Orders_done := ok_Orders_done (P := P) (w := w) (base := base) T
  have G_Orders_left := ok_Orders_left (P := P) (w := w) (base := base) T
  have G_Ldrop := ok_Ldrop (P := P) (w := w) (base := base) T
  have G_Orders_copy := ok_Orders_copy (P := P) (w := w) (base := base) T
  have G_Lseen := ok_Lseen (P := P) (w := w) (base := base) T
  refine T.F_Lright.ok sc_Lright (fun vs H Q E h => ?_) (fun cdv A outer s H vs Q E hr h => ?_)
  · obtain ⟨pa, R, P, rfl, hO, k⟩ := h; rfl
  · obtain ⟨pa, R, P, rfl, hO, k⟩ := h
    refine ⟨_, (pss_cons (ps_set (i := 1) sc_Lright.nd rfl (Or.inl rfl) (pe_op op_add pe_int (pe_call G_Ldraw (hr.mono (by decide)) rfl T.g_Ldraw T.F_Ldraw.kp T.b_Ldraw .nil pass0 (pa_cons (pv 0) (pa_cons pe_int pa_nil)))))
        (pss_cons (ps_asg (pe_tup (pa_cons (pe_make T.mk_Orders G_Orders_init (hr.mono (by decide)) rfl T.g_Orders T.b_Orders_init .nil pass0 (pa_cons (pv 1) pa_nil)) (pa_cons (pe_lst pa_nil) (pa_cons pe_int (pa_cons pe_int pa_nil))))) (pg_tup rfl (pgs_cons (pg_name (i := 2) sc_Lright.nd rfl (Or.inl rfl)) (pgs_cons (pg_name (i := 3) sc_Lright.nd rfl (Or.inl rfl)) (pgs_cons (pg_name (i := 4) sc_Lright.nd rfl (Or.inl rfl)) (pgs_cons (pg_name (i := 5) sc_Lright.nd rfl (Or.inl rfl)) pgs_nil))))))
        (pss_cons (ps_par3 (i := 6) (j := 7) (l := 8) rfl sc_Lright.nd rfl rfl rfl (by decide) (by decide) (by decide) rfl rfl rfl (pa_cons (pe_lst pa_nil) (pa_cons (pe_lst pa_nil) (pa_cons pe_non pa_nil))) (by rfl))
        (pss_cons (ps_forS PassesOwn.never rfl (pi_range1 rfl T.m_range (pa_cons (pe_op op_add pe_int (pe_call G_Ldraw (hr.mono (by decide)) rfl T.g_Ldraw T.F_Ldraw.kp T.b_Ldraw .nil pass0 (pa_cons (pv 0) (pa_cons pe_int pa_nil)))) pa_nil)) (pg_name (i := 9) sc_Lright.nd rfl (Or.inl rfl))
          (pss_cons (ps_set (i := 10) sc_Lright.nd rfl (Or.inl rfl) (pe_call G_Lpick (hr.mono (by decide)) rfl T.g_Lpick T.F_Lpick.kp T.b_Lpick .nil pass0 (pa_cons (pv 0) (pa_cons (pe_lst (pa_cons pe_int (pa_cons pe_int (pa_cons pe_int (pa_cons pe_int (pa_cons pe_int (pa_cons pe_int (pa_cons pe_int (pa_cons pe_int (pa_cons pe_int pa_nil)))))))))) pa_nil))))
          (pss_cons (ps_mid (ps_if (pt_mid (PW.pt (pw_and (pt_cmpR op_eq (pv 10) pe_int (nomark _)) (pw_and1 (pt_cmpR op_lt (pe_callB call_len_list (by rfl) T.m_len (by decide +kernel) (pa_cons (pv 3) pa_nil)) (pv 1) (nomark _))))))
            (pss_cons (ps_if (pt_cmpR op_ne (pe_meth (pv 2) T.cl_Orders T.me_Orders_entered G_Orders_entered (hr.mono (by decide)) T.b_Orders_entered .nil pass0 (pa_cons (pe_mid (pe_lst (pa_cons (pv 5) pa_nil))) pa_nil)) (pe_op op_add (pv 4) (pe_callB call_len_list (by rfl) T.m_len (by decide +kernel) (pa_cons (pv 3) pa_nil))) (nomark _))
              (pss_one (ps_ret pe_bl))
              pss_nil)
            (pss_cons (ps_expr (pe_bm PySem.F.plainAttrs_list PySem.F.slot_list_append PySem.F.type_list_append mt_append (pv 3) (pa_cons (pe_tup (pa_cons (pe_mid (pe_lst (pa_cons (pv 5) pa_nil))) (pa_cons pe_bl pa_nil))) pa_nil)))
            (pss_cons (ps_expr (pe_bm PySem.F.plainAttrs_list PySem.F.slot_list_append PySem.F.type_list_append mt_append (pv 6) (pa_cons (pe_mid (pe_lst (pa_cons (pv 5) pa_nil))) pa_nil)))
            (pss_one (ps_set (i := 5) sc_Lright.nd rfl (Or.inl rfl) (pe_op op_add (pv 5) pe_int))))))
            (pss_one (ps_mid (ps_if (pt_mid (PW.pt (pw_and (pt_cmpR op_eq (pv 10) pe_int (nomark _)) (pw_and1 (pt_cmpR (op_neD hr.units) (pv 3) (pe_lst pa_nil) (nomark _))))))
              (pss_cons (ps_set (i := 11) sc_Lright.nd rfl (Or.inl rfl) (pe_call G_Ldraw (hr.mono (by decide)) rfl T.g_Ldraw T.F_Ldraw.kp T.b_Ldraw .nil pass0 (pa_cons (pv 0) (pa_cons (pe_callB call_len_list (by rfl) T.m_len (by decide +kernel) (pa_cons (pv 3) pa_nil)) pa_nil))))
              (pss_one (ps_mid (ps_if (pt_not (pt_val (pe_ix ix_tup (pe_ix ix_list (pv 3) (pv 11) (fun _ _ => rfl)) pe_int (fun _ _ => rfl))))
                (pss_cons (ps_if (pt_cmpR op_notN (pe_meth (pv 2) T.cl_Orders T.me_Orders_done G_Orders_done (hr.mono (by decide)) T.b_Orders_done .nil pass0 (pa_cons (pe_op op_add (pv 4) (pv 11)) pa_nil)) pe_non (nomark _))
                  (pss_one (ps_ret pe_bl))
                  pss_nil)
                (pss_one (ps_asg (pe_tup (pa_cons (pe_ix ix_tup (pe_ix ix_list (pv 3) (pv 11) (fun _ _ => rfl)) pe_int (fun _ _ => rfl)) (pa_cons pe_bl pa_nil))) (pg_sub (pv 3) (pv 11) set_list))))
                pss_nil))))
              (pss_one (ps_mid (ps_if (pt_mid (PW.pt (pw_and (pt_cmpR op_eq (pv 10) pe_int (nomark _)) (pw_and (pt_cmpR (op_neD hr.units) (pv 3) (pe_lst pa_nil) (nomark _)) (pw_and1 (pt_val (pe_ix ix_tup (pe_ix ix_list (pv 3) pe_int (fun _ _ => rfl)) pe_int (fun _ _ => rfl))))))))
                (pss_cons (ps_if (pt_cmpR (op_stop (op_neD hr.units)) (pe_meth0 (pv 2) T.cl_Orders T.me_Orders_left G_Orders_left (hr.mono (by decide)) T.b_Orders_left .nil pass0) (pe_tup (pa_cons (pv 4) (pa_cons (pe_ix ix_tup (pe_ix ix_list (pv 3) pe_int (fun _ _ => rfl)) pe_int (fun _ _ => rfl)) pa_nil))) (nomark _))
                  (pss_one (ps_ret pe_bl))
                  pss_nil)
                (pss_cons (ps_expr (pe_bm PySem.F.plainAttrs_list PySem.F.slot_list_append PySem.F.type_list_append mt_append (pv 7) (pa_cons (pe_ix ix_tup (pe_ix ix_list (pv 3) pe_int (fun _ _ => rfl)) pe_int (fun _ _ => rfl)) pa_nil)))
                (pss_one (ps_par (i := 4) (j := 3) rfl sc_Lright.nd rfl rfl (by decide) rfl rfl (pa_cons (pe_op op_add (pv 4) pe_int) (pa_cons (pe_slice sl_list (pv 3) (po_some pe_int) po_none) pa_nil)) (by rfl)))))
                (pss_one (ps_mid (ps_if (pt_cmpR op_eq (pv 10) pe_int (nomark _))
                  (pss_cons (ps_set (i := 12) sc_Lright.nd rfl (Or.inl rfl) (pe_callB (call_max2 rfl) (by rfl) T.m_max (by decide +kernel) (pa_cons pe_int (pa_cons (pe_op op_sub (pe_op op_add (pv 4) (pe_call G_Ldraw (hr.mono (by decide)) rfl T.g_Ldraw T.F_Ldraw.kp T.b_Ldraw .nil pass0 (pa_cons (pv 0) (pa_cons (pe_op op_add (pv 1) pe_int) pa_nil)))) pe_int) pa_nil))))
                  (pss_cons (ps_if (pt_not (pt_val (pe_call G_Ldrop (hr.mono (by decide)) rfl T.g_Ldrop T.F_Ldrop.kp T.b_Ldrop .nil pass0 (pa_cons (pv 2) (pa_cons (pv 3) (pa_cons (pv 4) (pa_cons (pv 12) pa_nil)))))))
                    (pss_one (ps_ret pe_bl))
                    pss_nil)
                  (pss_cons (ps_set (i := 13) sc_Lright.nd rfl (Or.inl rfl) (pe_callB (call_max2 rfl) (by rfl) T.m_max (by decide +kernel) (pa_cons pe_int (pa_cons (pe_op op_sub (pv 12) (pv 4)) pa_nil))))
                  (pss_cons (ps_forS PassesOwn.never rfl (pi_list (pe_slice sl_list (pv 3) (po_some (pv 13)) po_none)) (pg_tup rfl (pgs_cons (pg_name (i := 14) sc_Lright.nd rfl (Or.inl rfl)) (pgs_cons (pg_name (i := 15) sc_Lright.nd rfl (Or.inl rfl)) pgs_nil)))
                    (pss_one (ps_expr (pe_bm PySem.F.plainAttrs_list PySem.F.slot_list_remove PySem.F.type_list_remove (mt_remS (hu65 hr)) (pv 6) (pa_cons (pv 14) pa_nil)))))
                  (pss_one (ps_set (i := 3) sc_Lright.nd rfl (Or.inl rfl) (pe_slice sl_list (pv 3) po_none (po_some (pv 13)))))))))
                  (pss_one (ps_mid (ps_if (pt_cmpR op_eq (pv 10) pe_int (nomark _))
                    (pss_one (ps_set (i := 8) sc_Lright.nd rfl (Or.inl rfl) (pe_tup (pa_cons (pe_meth0 (pv 2) T.cl_Orders T.me_Orders_copy G_Orders_copy (hr.mono (by decide)) T.b_Orders_copy .nil pass0) (pa_cons (pe_callTy call_list_of (by rfl) T.m_list (by decide +kernel) (pa_cons (pv 3) pa_nil)) (pa_cons (pv 4) pa_nil))))))
                    pss_nil))))))))))))))
          (pss_one (ps_if (pt_not (pt_val (pe_call G_Lseen (hr.mono (by decide)) rfl T.g_Lseen T.F_Lseen.kp T.b_Lseen .nil pass0 (pa_cons (pv 2) (pa_cons (pv 3) (pa_cons (pv 4) (pa_cons (pv 1) pa_nil)))))))
            (pss_one (ps_ret pe_bl))
            pss_nil)))))
        (pss_cons (ps_if (pt_mid (PW.pt (pw_and (pt_cmpR op_notN (pv 8) pe_non (nomark _)) (pw_and1 (pt_not (pt_val (pe_call G_Lseen (hr.mono (by decide)) rfl T.g_Lseen T.F_Lseen.kp T.b_Lseen .nil pass0 (pa_cons (pe_ix ix_tup (pv 8) pe_int (fun _ _ => rfl)) (pa_cons (pe_ix ix_tup (pv 8) pe_int (fun _ _ => rfl)) (pa_cons (pe_ix ix_tup (pv 8) pe_int (fun _ _ => rfl)) (pa_cons (pv 1) pa_nil)))))))))))
          (pss_one (ps_ret pe_bl))
          pss_nil)
        (pss_one (ps_ret (pe_cmpR (op_eqD hr.units) (pe_op op_cat (pv 7) (pe_lc (own := [("_law_thing", 14), ("_law_is_done", 15)]) (g := gTup _ 2 (gCons (gName 14) (gCons (gName 15) gNil))) (tt := tYes) rfl sc_Lright.nd (pi_list (pv 3)) (blkOk_by (N := ["_law_pot_here", "_law_many", "_law_orders", "_law_own", "_law_first", "_law_made", "_law_entered", "_law_left", "_law_aside", "_law_turn", "_law_way", "_law_at", "_law_number", "_law_kept", "_law_thing", "_law_is_done"]) (sc := defScope s_Lright) (by decide +kernel)) (fun _ _ _ _ _ => pg_pair (i := 14) (j := 15) rfl sc_Lright.nd rfl rfl (Or.inl rfl) (Or.inl rfl)) (fun _ _ _ _ _ => pts_nil) (fun _ _ _ _ _ => (pv 14)))) (pv 6) (nomark _))))))))), ?_⟩
    clear G_Ldraw G_Orders_init G_Lpick G_Orders_entered G_Orders_done G_Orders_left G_Ldrop G_Orders_copy G_Lseen
    clear hr
    walk_at "go"
    intro d1 H1 a0 a1 hO
    walk_at "go"
    walk_at "mk"
    walk_at "go"
    intro t d H2 hO
    walk_at "go"
    intro d2 H3 b0 b1 hO
    walk_at "go"
    refine keepPs hO fun P0 mP0 sp0 hO => ?_
    refine ⟨for_range (n := (14 + d2).toNat) (fun i σ H' => Stop (∃ (t d wo en lf : Addr) (f mk : Int) (os : List OR) (ms : List Int) (as : Option AS) (av : V) (t9 t10 t11 t12 t13 t14 t15 : Option V) (P' : List Pf), σ = [some (.ref pa), some (.int (1 + d1)), some (.ref p1), some (.ref wo), some (.int f), some (.int mk), some (.ref en), some (.ref lf), some av, t9, t10, t11, t12, t13, t14, t15] ∧ Iq i (1 + d1) f mk os ms ∧ asOk P' av as ∧ Own K H' (pt pa ++ (obk T.C_Orders p1 p2 t d (1 + d1) f os ++ ((wo, .L (os.map owD)) :: (en, .L ((ms ++ nq os).map lD)) :: (lf, .L (ms.map lD)) :: (asB T.C_Orders (1 + d1) as ++ R)))) P')) ⟨⟨t, d, _, _, _, 0, 0, [], [], none, .non, none, none, none, none, none, none, none, P0, rfl, Iq.start (by omega), rfl, ?_⟩⟩ (fun i σ H' hi h => ?_) (fun σ H' h => ?_)⟩
    · simp only [asB, List.nil_append]
      walk_at "fin"
      all_goals exact Dv.nil
    · clear hO
      obtain ⟨t, d, wo, en, lf, f, mk, os, ms, as, av, t9, t10, t11, t12, t13, t14, t15, P', rfl, hI, hA, hO⟩ := h.h
      clear h
      have hi35 : i < 35 := by omega
      walk_at "go"
      intro iv v H3 hv hO
      obtain ⟨way, rfl, hwy⟩ : ∃ way : Int, v = .int way ∧ 0 ≤ way ∧ way < 5 := by
        have hm := List.mem_of_getElem? hv
        simp only [List.mem_cons, List.not_mem_nil, or_false] at hm
        rcases hm with rfl | rfl | rfl | rfl | rfl | rfl | rfl | rfl | rfl <;> exact ⟨_, rfl, by decide, by decide⟩
      clear hv
      walk_at "go"
      refine Stop.mk ⟨fun σ' H' => Stop (∃ (t d wo en lf : Addr) (f mk : Int) (os : List OR) (ms : List Int) (as : Option AS) (av : V) (t9 t10 t11 t12 t13 t14 t15 : Option V) (P' : List Pf), σ' = [some (.ref pa), some (.int (1 + d1)), some (.ref p1), some (.ref wo), some (.int f), some (.int mk), some (.ref en), some (.ref lf), some av, t9, t10, t11, t12, t13, t14, t15] ∧ Iq (i + 1) (1 + d1) f mk os ms ∧ asOk P' av as ∧ Own K H' (pt pa ++ (obk T.C_Orders p1 p2 t d (1 + d1) f os ++ ((wo, .L (os.map owD)) :: (en, .L ((ms ++ nq os).map lD)) :: (lf, .L (ms.map lD)) :: (asB T.C_Orders (1 + d1) as ++ R)))) P'), ?_, fun σ' H' hM => ?_⟩
      · -- the ways
        have hO2 : Own K H3 (pt pa ++ (obk T.C_Orders p1 p2 t d (1 + d1) f os ++ ((wo, .L (os.map owD)) :: (en, .L ((ms ++ nq os).map lD)) :: (lf, .L (ms.map lD)) :: (asB T.C_Orders (1 + d1) as ++ R)))) P' := Own.sub hO (by walk_at "sbL") Ps.refl
        clear hO
        have hO := hO2
        clear hO2
        have hsz := hI.sz
        have hlen := hI.len
        have hf0 := hI.f0
        have hl1 : os.length ≤ 100 := by omega
        walk_at "go"
        refine Stop.mk ⟨fun b' H' => Stop ((b' = true → (os.length : Int) < 1 + d1) ∧ ∃ P2, Ps P' P2 ∧ Own K H' (pt pa ++ (obk T.C_Orders p1 p2 t d (1 + d1) f os ++ ((wo, .L (os.map owD)) :: (en, .L ((ms ++ nq os).map lD)) :: (lf, .L (ms.map lD)) :: (asB T.C_Orders (1 + d1) as ++ R)))) P2), ?_, fun b' H' hM => ?_⟩
        · obtain ⟨vw, o1⟩ := hO.openL (a := wo) (by walk_at "mem")
          replace hO := o1 _ (by walk_at "setat")
          clear o1
          have hvw := (hO.pdp List.mem_cons_self).len
          rw [List.length_map] at hvw
          walk_at "go"
          refine iteD (fun h => ?_) (fun h => ?_)
          · walk_at "go"
            refine ⟨⟨fun e => by rw [← hvw]; exact of_decide_eq_true e, .dp vw (os.map owD) :: P', Ps.skip Ps.refl, ?_⟩⟩
            walk_at "fin"
          · refine ⟨⟨fun e => absurd e (by decide), .dp vw (os.map owD) :: P', Ps.skip Ps.refl, ?_⟩⟩
            walk_at "fin"
        clear hO
        obtain ⟨hb, P2, sp2, hO⟩ := hM.h
        clear hM
        replace hA := hA.mono sp2
        cases b' with
        | true =>
          have hrm := hb rfl
          clear hb
          obtain ⟨vw, o1⟩ := hO.openL (a := wo) (by walk_at "mem")
          replace hO := o1 _ (by walk_at "setat")
          clear o1
          have hvw := (hO.pdp List.mem_cons_self).len
          rw [List.length_map] at hvw
          obtain ⟨ve, o1⟩ := hO.openL (a := en) (by walk_at "mem")
          replace hO := o1 _ (by walk_at "setat")
          clear o1
          have hve := (hO.pdp List.mem_cons_self).len
          rw [List.length_map] at hve
          have szw : vw.length < sizeLine := size_lt (by omega)
          have sze : ve.length < sizeLine := size_lt (by omega)
          refine keepPs hO fun P3 mE sp3 hO => ?_
          have mW : Pf.dp vw (os.map owD) ∈ P3 := sp3 _ List.mem_cons_self
          replace hA := hA.mono ((Ps.skip Ps.refl).trans sp3)
          clear sp2 sp3
          walk_at "go"
          refine Stop.mk ⟨fun v H' => Stop (∃ (q : Addr) (P4 : List Pf), v = .ref q ∧ Ps P3 P4 ∧ Pf.lst q [.int mk] ∈ P4 ∧ Own K H' (pt pa ++ (obk T.C_Orders p1 p2 t d (1 + d1) f os ++ ((wo, .raw (.lst vw)) :: (en, .raw (.lst ve)) :: (lf, .L (ms.map lD)) :: (asB T.C_Orders (1 + d1) as ++ R)))) P4), ?_, fun v H' hM => ?_⟩
          · walk_at "go"
            have hg := Own.give (a := p) (vs := [V.int mk]) hO (by repeat (first | (with_reducible exact Pk.one) | (with_reducible apply Pk.skip1) | (with_reducible apply Pk.skipB)))
            exact ⟨⟨p, .lst p [.int mk] :: P3, rfl, Ps.skip Ps.refl, List.mem_cons_self, Own.sub hg (by walk_at "sbL") Ps.refl⟩⟩
          clear hO
          obtain ⟨q4, P4, rfl, sp4, m4, hO⟩ := hM.h
          clear hM
          have dq1 : Dv1 K P4 (.ref q4) (.list [.int mk]) := Dv1.lst m4 (Dv.cons (Dv1.int _) Dv.nil)
          walk_at "go"
          intro H6 P6 sp6 hO
          walk_at "go"
          refine iteN (fun h => absurd (congrArg V.int (show f + ((os.length : Nat) : Int) = f + (vw.length : Int) by omega)) h) (fun _ => ?_)
          walk_at "go"
          refine Stop.mk ⟨fun v H' => Stop (∃ (q : Addr) (P7 : List Pf), v = .ref q ∧ Ps P6 P7 ∧ Pf.lst q [.int mk] ∈ P7 ∧ Own K H' (pt pa ++ (obk T.C_Orders p1 p2 t d (1 + d1) f (os ++ [(mk, false)]) ++ ((wo, .raw (.lst vw)) :: (en, .raw (.lst ve)) :: (lf, .L (ms.map lD)) :: (asB T.C_Orders (1 + d1) as ++ R)))) P7), ?_, fun v H' hM => ?_⟩
          · walk_at "go"
            have hg := Own.give (a := p) (vs := [V.int mk]) hO (by repeat (first | (with_reducible exact Pk.one) | (with_reducible apply Pk.skip1) | (with_reducible apply Pk.skipB)))
            exact ⟨⟨p, .lst p [.int mk] :: P6, rfl, Ps.skip Ps.refl, List.mem_cons_self, Own.sub hg (by walk_at "sbL") Ps.refl⟩⟩
          clear hO
          obtain ⟨q7, P7, rfl, sp7, m7, hO⟩ := hM.h
          clear hM
          walk_at "go"
          refine keepPs hO fun P8 mT sp8 hO => ?_
          refine Stop.mk ⟨fun v H' => Stop (∃ (q : Addr) (P9 : List Pf), v = .ref q ∧ Ps P8 P9 ∧ Pf.lst q [.int mk] ∈ P9 ∧ Own K H' (pt pa ++ (obk T.C_Orders p1 p2 t d (1 + d1) f (os ++ [(mk, false)]) ++ ((wo, .raw (.lst (vw ++ [.ref p]))) :: (en, .raw (.lst ve)) :: (lf, .L (ms.map lD)) :: (asB T.C_Orders (1 + d1) as ++ R)))) P9), ?_, fun v H' hM => ?_⟩
          · walk_at "go"
            have hg := Own.give (a := p) (vs := [V.int mk]) hO (by repeat (first | (with_reducible exact Pk.one) | (with_reducible apply Pk.skip1) | (with_reducible apply Pk.skipB)))
            exact ⟨⟨p, .lst p [.int mk] :: P8, rfl, Ps.skip Ps.refl, List.mem_cons_self, Own.sub hg (by walk_at "sbL") Ps.refl⟩⟩
          clear hO
          obtain ⟨q9, P9, rfl, sp9, m9, hO⟩ := hM.h
          clear hM
          walk_at "go"
          have sp49 : Ps P3 P9 := sp4.trans (sp6.trans (sp7.trans (sp8.trans sp9)))
          refine ⟨⟨t, d, wo, en, lf, f, mk + 1, os ++ [(mk, false)], ms, as, av, _, _, _, _, _, _, _, P9, rfl, hI.enter hrm, hA.mono sp49, ?_⟩⟩
          have en1 : (ms ++ nq (os ++ [(mk, false)])).map lD = (ms ++ nq os).map lD ++ [.list [.int mk]] := by rw [nq_app, ← List.append_assoc, List.map_append]; rfl
          have wn1 : (os ++ [(mk, false)]).map owD = os.map owD ++ [.tuple [.list [.int mk], .bool false]] := by rw [List.map_append]; rfl
          rw [en1, wn1]
          walk_at "fin"
          · exact Dv.app (Dv.of (sp49 _ mW)) (Dv.cons (Dv1.tup (sp9 _ mT) (Dv.cons (Dv1.lst (sp9 _ (sp8 _ m7)) (Dv.cons (Dv1.int _) Dv.nil)) (Dv.cons (Dv1.bl _) Dv.nil))) Dv.nil)
          · exact Dv.app (Dv.of (sp49 _ mE)) (Dv.cons (Dv1.lst m9 (Dv.cons (Dv1.int _) Dv.nil)) Dv.nil)
        | false =>
          clear hb
          refine Stop.mk ⟨_, ?_, fun σ' H' h => h⟩
          walk_at "go"
          refine Stop.mk ⟨fun b' H' => Stop ((b' = true → os ≠ []) ∧ ∃ P3, Ps P2 P3 ∧ Own K H' (pt pa ++ (obk T.C_Orders p1 p2 t d (1 + d1) f os ++ ((wo, .L (os.map owD)) :: (en, .L ((ms ++ nq os).map lD)) :: (lf, .L (ms.map lD)) :: (asB T.C_Orders (1 + d1) as ++ R)))) P3), ?_, fun b' H' hM => ?_⟩
          · obtain ⟨vw, o1⟩ := hO.openL (a := wo) (by walk_at "mem")
            replace hO := o1 _ (by walk_at "setat")
            clear o1
            have S1 := sh_ow os
            have S2 := sh_nil
            walk_at "go"
            refine iteD (fun h => ?_) (fun h => ?_)
            · walk_at "go"
              rw [eqv_nil]
              refine ⟨⟨fun e h0 => ?_, .dp vw (os.map owD) :: P2, Ps.skip Ps.refl, ?_⟩⟩
              · rw [h0] at e
                exact absurd e (by decide)
              walk_at "fin"
            · refine ⟨⟨fun e => absurd e (by decide), .dp vw (os.map owD) :: P2, Ps.skip Ps.refl, ?_⟩⟩
              walk_at "fin"
          clear hO
          obtain ⟨hb, P3, sp3, hO⟩ := hM.h
          clear hM
          replace hA := hA.mono sp3
          clear sp2 sp3
          cases b' with
          | true =>
            have hne := hb rfl
            clear hb
            obtain ⟨vw, o1⟩ := hO.openL (a := wo) (by walk_at "mem")
            replace hO := o1 _ (by walk_at "setat")
            clear o1
            have hvw := (hO.pdp List.mem_cons_self).len
            rw [List.length_map] at hvw
            have hpos : 0 < vw.length := by rw [hvw]; exact List.length_pos_iff.mpr hne
            walk_at "go"
            intro dj H4 q0 q1 hO
            obtain ⟨j, rfl⟩ := Int.eq_ofNat_of_zero_le q0
            have hj : j < os.length := by omega
            obtain ⟨r, hg⟩ : ∃ r, os[j]? = some r := ⟨_, List.getElem?_eq_getElem hj⟩
            have hv3 : vw[j]? = some (vw[j]'(by omega)) := List.getElem?_eq_getElem _
            generalize vw[j]'(by omega) = u at hv3
            obtain ⟨t1, a', b', rfl, hO⟩ := hO.opn2 (x := .list [.int r.1]) (y := .bool r.2) (Dv.get (vs := vw) (ds := os.map owD) (Dv.of List.mem_cons_self) hv3 (by rw [List.getElem?_map, hg]; rfl))
            obtain rfl : V.bl r.2 = b' := by cases hO.one (Dv1.of (v := b') (d := .bool r.2) (by walk_at "mem")); rfl
            have ad := atI_nat hv3
            have hix : ixN vw.length ((j : Nat) : Int) = some j := ixR (by omega)
            walk_at "go"
            refine Stop.mk ⟨_, ?_, fun σ' H' h => h⟩
            obtain ⟨q, bb⟩ := r
            dsimp only at hO hg
            have hf00 := hf0.1
            cases bb with
            | true =>
              walk_at "go"
              refine keepPs hO fun P5 m5 sp5 hO => ?_
              refine ⟨⟨t, d, wo, en, lf, f, mk, os, ms, as, av, _, _, _, _, _, _, _, P5, rfl, hI.up, hA.mono ((Ps.skip (Ps.skip (Ps.skip Ps.refl))).trans sp5), ?_⟩⟩
              walk_at "fin"
              exact Dv.of (sp5 _ (by walk_at "mem"))
            | false =>
              walk_at "go"
              intro H5 hO
              walk_at "go"
              refine keepPs hO fun P5 mT sp5 hO => ?_
              refine ⟨⟨t, d, wo, en, lf, f, mk, os.set j (q, true), ms, as, av, _, _, _, _, _, _, _, P5, rfl, hI.done hg, hA.mono ((Ps.skip (Ps.skip (Ps.skip (Ps.skip Ps.refl)))).trans sp5), ?_⟩⟩
              have eno : nq (os.set j (q, true)) = nq os := nq_set hg
              rw [eno, List.map_set (f := owD)]
              walk_at "fin"
              exact Dv.set j (Dv1.tup mT (Dv.cons (Dv1.of (sp5 _ (by walk_at "mem"))) (Dv.cons (Dv1.bl _) Dv.nil))) (Dv.of (sp5 _ (by walk_at "mem")))
          | false =>
            clear hb
            refine Stop.mk ⟨_, ?_, fun σ' H' h => h⟩
            walk_at "go"
            refine Stop.mk ⟨fun b' H' => Stop ((b' = true → ∃ q os', os = (q, true) :: os') ∧ ∃ P4, Ps P3 P4 ∧ Own K H' (pt pa ++ (obk T.C_Orders p1 p2 t d (1 + d1) f os ++ ((wo, .L (os.map owD)) :: (en, .L ((ms ++ nq os).map lD)) :: (lf, .L (ms.map lD)) :: (asB T.C_Orders (1 + d1) as ++ R)))) P4), ?_, fun b' H' hM => ?_⟩
            · obtain ⟨vw, o1⟩ := hO.openL (a := wo) (by walk_at "mem")
              replace hO := o1 _ (by walk_at "setat")
              clear o1
              have hvw := (hO.pdp List.mem_cons_self).len
              rw [List.length_map] at hvw
              have S1 := sh_ow os
              have S2 := sh_nil
              cases os with
              | nil =>
                walk_at "go"
                refine iteD (fun h => ?_) (fun h => ?_)
                · walk_at "go"
                  refine ⟨⟨fun e => absurd e (by decide), .dp vw (([] : List OR).map owD) :: P3, Ps.skip Ps.refl, ?_⟩⟩
                  walk_at "fin"
                · refine ⟨⟨fun e => absurd e (by decide), .dp vw (([] : List OR).map owD) :: P3, Ps.skip Ps.refl, ?_⟩⟩
                  walk_at "fin"
              | cons r os' =>
                have hv3 : vw[0]? = some (vw[0]'(by simp at hvw; omega)) := List.getElem?_eq_getElem _
                generalize vw[0]'(by simp at hvw; omega) = u at hv3
                obtain ⟨t1, a', b2, rfl, hO⟩ := hO.opn2 (x := .list [.int r.1]) (y := .bool r.2) (Dv.get (vs := vw) (ds := (r :: os').map owD) (Dv.of List.mem_cons_self) hv3 rfl)
                obtain rfl : V.bl r.2 = b2 := by cases hO.one (Dv1.of (v := b2) (d := .bool r.2) (by walk_at "mem")); rfl
                have ad : atI vw (0 : Int) = some (.ref t1) := atI_nat (j := 0) hv3
                replace hO := hO.dv (Dv.of (by walk_at "mem") : Dv K (_ :: _) vw ((r :: os').map owD))
                walk_at "go"
                refine iteD (fun h => ?_) (fun h => ?_)
                · walk_at "go"
                  refine keepPs hO fun P4 m4 sp4 hO => ?_
                  refine ⟨⟨fun e => ⟨r.1, os', by rw [← (show r.2 = true from e)]⟩, P4, (Ps.skip (Ps.skip (Ps.skip (Ps.skip Ps.refl)))).trans sp4, ?_⟩⟩
                  walk_at "fin"
                  all_goals exact Dv.of m4
                · refine keepPs hO fun P4 m4 sp4 hO => ?_
                  refine ⟨⟨fun e => absurd e (by decide), P4, (Ps.skip (Ps.skip (Ps.skip (Ps.skip Ps.refl)))).trans sp4, ?_⟩⟩
                  walk_at "fin"
                  all_goals exact Dv.of m4
            clear hO
            obtain ⟨hb, P4, sp4, hO⟩ := hM.h
            clear hM
            replace hA := hA.mono sp4
            clear sp4
            cases b' with
            | true =>
              obtain ⟨q, os', rfl⟩ := hb rfl
              clear hb
              obtain ⟨vl, o1⟩ := hO.openL (a := lf) (by walk_at "mem")
              replace hO := o1 _ (by walk_at "setat")
              clear o1
              have hvl := (hO.pdp List.mem_cons_self).len
              rw [List.length_map] at hvl
              obtain ⟨vw, o1⟩ := hO.openL (a := wo) (by walk_at "mem")
              replace hO := o1 _ (by walk_at "setat")
              clear o1
              have hvw := (hO.pdp List.mem_cons_self).len
              rw [List.length_map] at hvw
              have hv3 : vw[0]? = some (vw[0]'(by simp at hvw; omega)) := List.getElem?_eq_getElem _
              generalize vw[0]'(by simp at hvw; omega) = u at hv3
              obtain ⟨t1, a', b2, rfl, hO⟩ := hO.opn2 (x := .list [.int q]) (y := .bool true) (Dv.get (vs := vw) (ds := ((q, true) :: os').map owD) (Dv.of List.mem_cons_self) hv3 rfl)
              obtain rfl : V.bl true = b2 := by cases hO.one (Dv1.of (v := b2) (d := .bool true) (by walk_at "mem")); rfl
              have ad : atI vw (0 : Int) = some (.ref t1) := atI_nat (j := 0) hv3
              have hlos : os'.length ≤ 100 := by simp at hl1; omega
              have ms1 : ms.length ≤ i := by rw [List.length_append] at hlen; omega
              have szl : vl.length < sizeLine := size_lt (by omega)
              have S1 : SeqAt.shaped (.tuple [.int f, .list [.int q]]) = true := sh_fq f q
              have ecut : cutV vw (some (1 : Int)) none = vw.drop 1 := cut_from vw 1
              walk_at "go"
              intro tt H5 P5 sp5 dvt hO
              have dva : Dv1 K P5 a' (.list [.int q]) := Dv1.of (sp5 _ (by walk_at "mem"))
              have mW : Pf.dp vw (((q, true) :: os' : List OR).map owD) ∈ P5 := sp5 _ (by walk_at "mem")
              have mL : Pf.dp vl (ms.map lD) ∈ P5 := sp5 _ (by walk_at "mem")
              have sp45 : Ps P4 P5 := (Ps.skip (Ps.skip (Ps.skip (Ps.skip (Ps.skip Ps.refl))))).trans sp5
              have ad5 : SqT K H5 t1 [a', .bl true] := hO.psq (sp5 _ (by walk_at "mem"))
              replace hO := hO.derive (q := .sq t1 [a', .bl true]) fun M h => h _ (sp5 _ (by walk_at "mem"))
              walk_at "go"
              refine ⟨⟨.tuple [.int f, .list [.int q]], .tuple [.int f, .list [.int q]], hO.one (dvt.mono (Ps.skip (Ps.skip Ps.refl))), hO.one (Dv1.tup List.mem_cons_self (Dv.cons (Dv1.int _) (Dv.cons (dva.mono (Ps.skip (Ps.skip Ps.refl))) Dv.nil))), S1, S1, ?_⟩⟩
              rw [show (!PyData.eqv (.tuple [.int f, .list [.int q]]) (.tuple [.int f, .list [.int q]])) = false from by simp [PyData.eqv, PyData.eqvAll]]
              clear S1
              walk_at "go"
              refine keepPs hO fun P6 m6 sp6 hO => ?_
              rw [ecut] at hO
              have sp56 : Ps P5 P6 := (Ps.skip Ps.refl).trans sp6
              refine ⟨⟨t, d, _, en, lf, f + 1, mk, os', ms ++ [q], as, av, _, _, _, _, _, _, _, P6, rfl, hI.left, hA.mono (sp45.trans sp56), ?_⟩⟩
              have en1 : (ms ++ [q] ++ nq os') = ms ++ nq ((q, true) :: os') := by simp [nq]
              have ln1 : (ms ++ [q]).map lD = ms.map lD ++ [.list [.int q]] := by rw [List.map_append]; rfl
              rw [en1, ln1]
              walk_at "fin"
              · exact (Dv.of (sp56 _ mW)).drop 1
              · exact Dv.app (Dv.of (sp56 _ mL)) (Dv.cons (dva.mono sp56) Dv.nil)
            | false =>
              clear hb
              refine Stop.mk ⟨_, ?_, fun σ' H' h => h⟩
              have hf00 := hf0.1
              walk_at "go"
              refine iteD (fun h3 => ?_) (fun h3 => ?_)
              · walk_at "go"
                intro dj H4 q0 q1 hO
                obtain ⟨kp, hkp⟩ : ∃ kp : Nat, (kp : Int) = (if (if f + dj - 1 > 0 then f + dj - 1 else 0) - f < 0 then 0 else (if f + dj - 1 > 0 then f + dj - 1 else 0) - f) := ⟨((if f + dj - 1 > 0 then f + dj - 1 else 0) - f).toNat, by split <;> split <;> omega⟩
                walk_at "go"
                intro H6 P6 sp6 hO
                replace hA := hA.mono sp6
                obtain ⟨vw, o1⟩ := hO.openL (a := wo) (by walk_at "mem")
                replace hO := o1 _ (by walk_at "setat")
                clear o1
                have hvw := (hO.pdp List.mem_cons_self).len
                rw [List.length_map] at hvw
                have hkq : (if (if f + dj - 1 > 0 then f + dj - 1 else 0) - f > 0 then (if f + dj - 1 > 0 then f + dj - 1 else 0) - f else 0) = ((kp : Nat) : Int) := by rw [hkp]; split <;> split <;> omega
                have ec : cutV vw (some ((kp : Nat) : Int)) none = vw.drop kp := cut_from vw kp
                have ec2 : cutV vw none (some ((kp : Nat) : Int)) = vw.take kp := cut_to vw kp
                walk_at "go"
                rw [hkq, ec] at hO
                rw [hkq]
                refine keepPs hO fun P7 m7 sp7 hO => ?_
                have hA7 := hA.mono sp7
                refine ⟨for_list (xs := vw.drop kp) (fun j σ H' => Stop (∃ (t14 t15 : Option V) (P8 : List Pf), σ = [some (.ref pa), some (.int (1 + d1)), some (.ref p1), some (.ref wo), some (.int f), some (.int mk), some (.ref en), some (.ref lf), some av, some (V.int (0 + (i : Nat))), some (V.int way), t11, some (V.int (if f + dj - 1 > 0 then f + dj - 1 else 0)), some (V.int (kp : Nat)), t14, t15] ∧ Ps P7 P8 ∧ Own K H' ((p, .raw (.lst (vw.drop kp))) :: (pt pa ++ (obk T.C_Orders p1 p2 t d (1 + d1) f (os.take kp) ++ ((wo, .raw (.lst vw)) :: (en, .L ((ms ++ nq (os.take kp) ++ nq ((os.drop kp).drop j)).map lD)) :: (lf, .L (ms.map lD)) :: (asB T.C_Orders (1 + d1) as ++ R))))) P8)) ⟨⟨t14, t15, P7, rfl, Ps.refl, ?_⟩⟩ (fun j σ H' hj h => ?_) (fun j v σ H' hv h => ?_) (fun σ H' h => ?_)⟩
                · have e0 : ms ++ nq (os.take kp) ++ nq ((os.drop kp).drop 0) = ms ++ nq os := by rw [List.drop_zero, List.append_assoc, ← nq_app, List.take_append_drop]
                  rw [e0]
                  exact Own.sub hO (by walk_at "sbL") Ps.refl
                · obtain ⟨u14, u15, P8, rfl, sp8, hO⟩ := h.h
                  exact SqL.of (hO.raw (by walk_at "mem"))
                · clear hO
                  obtain ⟨u14, u15, P8, rfl, sp8, hO⟩ := h.h
                  clear h
                  have hj : j < (os.drop kp).length := by
                    have := (List.getElem?_eq_some_iff.mp hv).1
                    rw [List.length_drop] at this ⊢
                    omega
                  obtain ⟨r, hg⟩ : ∃ r, (os.drop kp)[j]? = some r := ⟨_, List.getElem?_eq_getElem hj⟩
                  have hcs : (os.drop kp).drop j = r :: (os.drop kp).drop (j + 1) := by
                    rw [List.drop_eq_getElem_cons hj]
                    rw [List.getElem?_eq_getElem hj] at hg
                    rw [Option.some.inj hg]
                  obtain ⟨t1, a', b', rfl, hO⟩ := hO.opn2 (x := .list [.int r.1]) (y := .bool r.2) (Dv.get (vs := vw.drop kp) (ds := (os.drop kp).map owD) (by rw [List.map_drop]; exact (Dv.of (sp8 _ m7)).drop kp) hv (by rw [List.getElem?_map, hg]; rfl))
                  have da : Dv1 K _ a' (.list [.int r.1]) := Dv1.of (P := Pf.sq t1 [a', b'] :: Pf.dp [a'] [.list [.int r.1]] :: Pf.dp [b'] [.bool r.2] :: P8) (by walk_at "mem")
                  obtain ⟨ve, o1⟩ := hO.openL (a := en) (by walk_at "mem")
                  replace hO := o1 _ (by walk_at "setat")
                  clear o1
                  have S1 := sh_lD (ms ++ nq (os.take kp) ++ nq ((os.drop kp).drop j))
                  have S2 := sh_i1 r.1
                  walk_at "go"
                  refine Stop.mk ?_
                  unfold rRemD
                  refine ⟨en, ve, a', .list [.int r.1], _, (ms ++ nq (os.take kp)).length, lD r.1, rfl, rfl, hO.raw (by walk_at "mem"), hO.pdp List.mem_cons_self, hO.one (da.mono (Ps.skip Ps.refl)), S1, S2, ?_, by simp [lD, PyData.eqv, PyData.eqvAll], fun m z' hm hz => ?_, ?_⟩
                  · rw [hcs, List.getElem?_map, List.getElem?_append_right (Nat.le_refl _), Nat.sub_self]
                    rfl
                  · rw [List.getElem?_map, List.getElem?_append_left hm] at hz
                    obtain ⟨q, hq, rfl⟩ := Option.map_eq_some_iff.mp hz
                    have hlt := hI.cut (List.mem_of_getElem? hq) (List.mem_of_getElem? hg)
                    have hne : q ≠ r.1 := by omega
                    simp [lD, PyData.eqv, PyData.eqvAll, hne]
                  · refine keepPs hO fun P10 m9 sp10 hO => ?_
                    replace hO := hO.set (a := en) (o := .lst (ve.eraseIdx (ms ++ nq (os.take kp)).length)) (by walk_at "setat") rfl
                    refine Stop.mk ⟨some a', some b', P10, rfl, sp8.trans ((Ps.skip (Ps.skip (Ps.skip Ps.refl))).trans sp10), ?_⟩
                    walk_at "fin"
                    have ee : ((ms ++ nq (os.take kp) ++ nq ((os.drop kp).drop j)).map lD).eraseIdx (ms ++ nq (os.take kp)).length = (ms ++ nq (os.take kp) ++ nq ((os.drop kp).drop (j + 1))).map lD := by
                      rw [hcs]; exact er_mid lD _ _ _
                    rw [← ee]
                    exact (Dv.of m9).erase _
                · clear hO
                  obtain ⟨u14, u15, P8, rfl, sp8, hO⟩ := h.h
                  clear h
                  have e9 : ms ++ nq (os.take kp) ++ nq ((os.drop kp).drop (vw.drop kp).length) = ms ++ nq (os.take kp) := by
                    rw [List.drop_eq_nil_of_le (by rw [List.length_drop, List.length_drop]; omega)]; simp [nq]
                  rw [e9] at hO
                  walk_at "go"
                  rw [ec2] at hO
                  refine keepPs (hO.dv (Dv.of (sp8 _ m7))) fun P9 m9 sp9 hO => ?_
                  refine ⟨⟨t, d, _, en, lf, f, mk, os.take kp, ms, as, av, _, _, _, _, _, _, _, P9, rfl, hI.take kp, hA7.mono (sp8.trans sp9), ?_⟩⟩
                  walk_at "fin"
                  rw [List.map_take]
                  exact (Dv.of m9).take kp
              · refine Stop.mk ⟨_, ?_, fun σ' H' h => h⟩
                walk_at "go"
                refine iteD (fun h4 => ?_) (fun h4 => ?_)
                · walk_at "go"
                  intro y dy t2 d2' H5 P5 sp5 hO
                  obtain ⟨vw, o1⟩ := hO.openL (a := wo) (by walk_at "mem")
                  replace hO := o1 _ (by walk_at "setat")
                  clear o1
                  have hvw := (hO.pdp List.mem_cons_self).len
                  rw [List.length_map] at hvw
                  have szw : vw.length ≤ sizeLine := size_le (by omega)
                  walk_at "go"
                  rename_i p0 fp0 H10
                  refine keepPs hO fun P6 m6 sp6 hO => ?_
                  refine Stop.mk ⟨t, d, wo, en, lf, f, mk, os, ms, some (y, dy, t2, d2', p0, f, os), .ref p, _, _, _, _, _, _, _, P6, rfl, hI.up, ⟨⟨p, rfl, m6⟩, ⟨by omega, by omega⟩, hl1⟩, ?_⟩
                  simp only [asB, List.append_assoc, List.cons_append, List.nil_append]
                  walk_at "fin"
                  all_goals exact Dv.of (sp6 _ List.mem_cons_self)
                · walk_at "go"
                  refine Stop.mk ⟨t, d, wo, en, lf, f, mk, os, ms, as, av, _, _, _, _, _, _, _, P4, rfl, hI.up, hA, hO⟩
      clear hO hI hA
      clear hwy
      obtain ⟨t, d, wo, en, lf, f, mk, os, ms, as, av, t9, t10, t11, t12, t13, t14, t15, P', rfl, hI, hA, hO⟩ := hM.h
      clear hM
      have hsz := hI.sz
      have hf1 : 0 ≤ f ∧ f ≤ 1000 := by have := hI.f0; omega
      have hl1 : os.length ≤ 100 := by omega
      walk_at "go"
      intro H5 P5 sp5 hO
      walk_at "go"
      refine ⟨⟨t, d, wo, en, lf, f, mk, os, ms, as, av, _, _, _, _, _, _, _, P5, rfl, hI, hA.mono sp5, ?_⟩⟩
      walk_at "fin"
    · clear hO
      obtain ⟨t, d, wo, en, lf, f, mk, os, ms, as, av, t9, t10, t11, t12, t13, t14, t15, P', rfl, hI, hA, hO⟩ := h.h
      clear h
      have hsz := hI.sz
      have hlen := hI.len
      have hf1 : 0 ≤ f ∧ f ≤ 1000 := by have := hI.f0; omega
      have hl1 : os.length ≤ 100 := by omega
      walk_at "go"
      refine Stop.mk ⟨fun b' H' => Stop (b' = false ∧ ∃ P9, Ps P' P9 ∧ Own K H' (pt pa ++ (obk T.C_Orders p1 p2 t d (1 + d1) f os ++ ((wo, .L (os.map owD)) :: (en, .L ((ms ++ nq os).map lD)) :: (lf, .L (ms.map lD)) :: (asB T.C_Orders (1 + d1) as ++ R)))) P9), ?_, fun b' H' hM => ?_⟩
      · cases as with
        | none =>
          obtain rfl : av = .non := hA
          walk_at "go"
          exact ⟨⟨by simp, P', Ps.refl, hO⟩⟩
        | some a =>
          obtain ⟨y, dy, t2, d2', w2, f2, os2⟩ := a
          obtain ⟨⟨tt, rfl, mtt⟩, hf2, hl2⟩ := hA
          simp only [asB, List.append_assoc, List.cons_append, List.nil_append] at hO ⊢
          have hT : SqT K H' tt [.ref y, .ref w2, .int f2] := SqT.of (hO.ptup mtt)
          have e0 : atI [V.ref y, .ref w2, .int f2] (0 : Int) = some (.ref y) := rfl
          have e1 : atI [V.ref y, .ref w2, .int f2] (1 : Int) = some (.ref w2) := rfl
          have e2 : atI [V.ref y, .ref w2, .int f2] (2 : Int) = some (.int f2) := rfl
          walk_at "go"
          intro H5 P5 sp5 hO
          walk_at "go"
          refine ⟨⟨by simp, P5, sp5, ?_⟩⟩
          walk_at "fin"
      clear hO
      obtain ⟨rfl, P9, sp9, hO⟩ := hM.h
      clear hM
      obtain ⟨vw, o1⟩ := hO.openL (a := wo) (by walk_at "mem")
      replace hO := o1 _ (by walk_at "setat")
      clear o1
      have hvw := (hO.pdp List.mem_cons_self).len
      rw [List.length_map] at hvw
      obtain ⟨vl, o1⟩ := hO.openL (a := lf) (by walk_at "mem")
      replace hO := o1 _ (by walk_at "setat")
      clear o1
      have hvl := (hO.pdp List.mem_cons_self).len
      rw [List.length_map] at hvl
      rw [List.length_append] at hlen
      walk_at "go"
      intro D hD
      refine lc_ownW (walk_list (xs := vw)) ((nq os).map lD) hO hD (by rw [List.length_map, nq, List.length_map]; exact hvw) (by omega) (fun H L' P' s m h => SqL.of (h.raw (s _ (by walk_at "mem")))) (fun i x dd H9 H' P' Qx hi hY hd sp hO kq => ?_) (fun H3 P3 sp3 hO => ?_)
      · obtain ⟨rfl, hv⟩ := hY
        obtain ⟨r, hg⟩ : ∃ r, os[i]? = some r := ⟨_, List.getElem?_eq_getElem (by omega)⟩
        rw [nq, List.map_map, List.getElem?_map, hg] at hd
        obtain rfl := Option.some.inj hd
        obtain ⟨t1, a', b', rfl, hO⟩ := hO.opn2 (x := .list [.int r.1]) (y := .bool r.2) (Dv.get (vs := vw) (ds := os.map owD) (Dv.of (sp _ (by walk_at "mem"))) hv (by rw [List.getElem?_map, hg]; rfl))
        walk_at "go"
        exact kq a' _ _ (Ps.skip (Ps.skip (Ps.skip Ps.refl))) hO (Dv1.of (by walk_at "mem"))
      obtain ⟨vd, o1⟩ := hO.openL (a := D) (by walk_at "mem")
      replace hO := o1 _ (by walk_at "setat")
      clear o1
      have hvd := (hO.pdp List.mem_cons_self).len
      rw [List.length_map, nq, List.length_map] at hvd
      have S1 := sh_lD (ms ++ nq os)
      have szs : vl.length + vd.length ≤ sizeLine := size_le (by omega)
      replace hO := hO.dv (vs := vl ++ vd) (ds := (ms ++ nq os).map lD) (by rw [List.map_append]; exact Dv.app (Dv.of (List.mem_cons_of_mem _ (sp3 _ List.mem_cons_self))) (Dv.of List.mem_cons_self))
      walk_at "go"
      rw [SeqAt.eqv_refl _ (SeqAt.canLay_of_shaped S1)]
      exact k _
end
end K71

set_option Elab.async false
set_option linter.all false
set_option maxRecDepth 100000
set_option maxHeartbeats 8000000

namespace K71
open PySem PySem.Spec PyProof.Rows L2 Hx 
local macro_rules | `(tactic| walk_at "sm") => `(tactic| repeat' (first | assumption | apply Hx.Same.upd | exact L2.Same.refl _ | apply same_trans'))
local macro_rules | `(tactic| walk_at "hp") => `(tactic| repeat' (first | assumption | exact upd_same | apply old_upd | apply same_at))
local macro_rules | `(tactic| walk_at "rd") => `(tactic| repeat' (first | rfl | apply Exists.intro | apply And.intro | refine iteT ?_ | refine iteF ?_ | exact upd_same | exact SqL.of (by assumption) | exact SqL.of upd_same | exact SqT.of upd_same | exact SqT.of (by assumption) | ((with_reducible show (_ : Int) < _); omega) | ((with_reducible show (_ : Int) ≤ _); omega) | (show (_ : Prop); assumption) | exact Or.inl ⟨_, by assumption, rfl⟩ | exact Or.inl ⟨rfl, _, SqL.of (by assumption)⟩ | exact Or.inl ⟨rfl, _, SqL.of upd_same⟩ | apply old_upd | apply Hx.SqL.new | apply tyl_new | apply Pot.new | exact same_at (by assumption) (by assumption) | exact Or.inl (SqL.of (by assumption)) | exact Or.inl (by assumption) | exact Or.inl (SqL.of upd_same) | exact size_le (Nat.le_of_ble_eq_true rfl) | exact Nat.le_of_ble_eq_true rfl | exact True.intro | exact Or.inl rfl | exact Or.inr rfl | (show (_ : Prop); omega) | (show (_ : Prop); dsimp only; omega) | exact mulw64 (by omega) (by omega) | exact mulw64 (by (try dsimp only); omega) (by (try dsimp only); omega)))
set_option hygiene false in
local macro_rules | `(tactic| walk_at "fl") => `(tactic| simp only [pu_Orders_many, pi_Orders_many, pu_Orders_first, pi_Orders_first, pu_Orders_things, pi_Orders_things, pu_Orders_dones, pi_Orders_dones] at hO)
local macro_rules | `(tactic| walk_at "mem") => `(tactic| ((repeat (first | exact List.Mem.head _ | apply List.Mem.tail | fail)); done))
local macro_rules | `(tactic| walk_at "setat") => `(tactic| ((repeat (first | (with_reducible exact At.head) | (with_reducible apply At.tail) | (with_reducible apply At.app) | fail)); done))
set_option hygiene false in
local macro_rules | `(tactic| walk_at "dv") => `(tactic| ((repeat' (first | exact Dv.nil | exact Dv.of (by walk_at "mem") | exact Dv.ints _ | exact Dv1.of (by walk_at "mem") | exact Dv1.int _ | exact Dv1.non | exact Dv1.bl _ | exact Dv1.str _ | (with_reducible apply Dv.cons) | refine Dv1.tup (by walk_at "mem") ?_ | refine Dv1.lst (by walk_at "mem") ?_ | (with_reducible apply Dv.app) | fail)); done))
local macro_rules | `(tactic| walk_at "ft") => `(tactic| (first | (with_reducible exact Ft.refl) | ((with_reducible apply Ft.toL); focus walk_at "dv") | ((with_reducible apply Ft.toS); focus assumption) | (with_reducible apply Ft.lst) | (with_reducible apply Ft.Le) | (with_reducible apply Ft.dK) | (with_reducible apply Ft.De) | (with_reducible apply Ft.ins) | (with_reducible apply Ft.toL) | (with_reducible apply Ft.toS) | (with_reducible apply Ft.toD) | fail))
local macro_rules | `(tactic| walk_at "sbL") => `(tactic| repeat' (first | (with_reducible exact Sb.refl _) | exact Sb.nil | (with_reducible apply Sb.cons) | (with_reducible apply Sb.app) | (with_reducible exact Pk.one) | (with_reducible exact Pk.here) | (with_reducible exact Pk.all) | (with_reducible apply Pk.skip1) | (with_reducible apply Pk.skipB) | (with_reducible apply Sb.skip) | (with_reducible apply Sb.skipB) | ((with_reducible show Ft _ _ _ _); walk_at "ft") | ((with_reducible show (_ : List _) = _); (first | rfl | (simp [List.map_set, List.map_append]; done) | fail)) | fail))
local macro_rules | `(tactic| walk_at "sb") => `(tactic| ((walk_at "sbL"); done))
local macro_rules | `(tactic| walk_at "ps") => `(tactic| ((repeat' (first | (with_reducible exact Ps.refl) | exact Ps.nil | (with_reducible apply Ps.cons) | exact List.Mem.head _ | apply List.Mem.tail | (with_reducible apply Ps.skip) | fail)); done))
set_option hygiene false in
local macro_rules | `(tactic| walk_at "at") => `(tactic| first | assumption | exact Own.raw hO (by walk_at "mem") | exact Own.ptup hO (by walk_at "mem") | exact Own.plst hO (by walk_at "mem") | fail)
set_option hygiene false in
local macro_rules | `(tactic| walk_at "st") => `(tactic| (rw [upd_mkO hO]; generalize e : updX _ _ _ = H1; (first | ((apply Own.cset hO e); (focus walk_at "setat"); (try clear hO e); intro hO) | ((apply Own.cnewT hO e); (focus assumption); (try clear hO e); intro hO) | ((apply Own.cnew hO e); (focus assumption); (try clear hO e); intro hO) | fail)))
set_option hygiene false in
local macro_rules | `(tactic| walk_at "mk") => `(tactic| (intro p1 p2 f1 f2 f3; rw [upd_mkO hO]; generalize e : upd (updX _ _ _) _ _ = H1; apply Own.cmake hO f1 f2 f3 e; (try clear hO e); intro hO))
set_option hygiene false in
local macro_rules | `(tactic| walk_at "own") => `(tactic| (first | ((apply Own.sub hO); (focus walk_at "sb"); (focus walk_at "ps")) | ((apply Own.sub hF); (focus walk_at "sb"); (focus walk_at "ps")) | fail))
set_option hygiene false in
local macro_rules | `(tactic| walk_at "fin") => `(tactic| (refine Own.sub hO ?_ (by walk_at "ps"); walk_at "sbL"))
set_option hygiene false in
local macro_rules | `(tactic| walk_at "g1") => `(tactic| (first
 | ((with_reducible show (_ : Option HO) = _); walk_at "at")
 | ((with_reducible show (_ : Int) < _); omega) | ((with_reducible show (_ : Int) ≤ _); omega)
 | ((with_reducible show (_ : Nat) < _); (first | assumption | exact Nat.le_of_ble_eq_true rfl | exact size_lt (Nat.le_of_ble_eq_true rfl) | omega | (simp; done) | (simp; omega) | fail))
 | ((with_reducible show (_ : Nat) ≤ _); (first | assumption | exact Nat.le_of_ble_eq_true rfl | exact size_le (Nat.le_of_ble_eq_true rfl) | omega | (simp; done) | (simp; omega) | fail))
 | ((with_reducible show Own _ _ _ _); (first | walk_at "own" | (walk_at "st"; walk_at "own") | fail))
 | ((with_reducible show SqL _ _ _ _); (first | assumption | exact SqL.of (by walk_at "at") | fail))
 | ((with_reducible show SqT _ _ _ _); (first | assumption | exact hO.psq (by walk_at "mem") | exact SqT.of (by walk_at "at") | fail))
  | ((with_reducible show Cls _ _); exact Txt.cl_Orders T) | ((with_reducible show NoAttr _ _ _); exact Txt.n_Orders_many T) | (with_reducible exact gt_Orders_many) | ((with_reducible show NoAttr _ _ _); exact Txt.n_Orders_first T) | (with_reducible exact gt_Orders_first) | ((with_reducible show NoAttr _ _ _); exact Txt.n_Orders_things T) | (with_reducible exact gt_Orders_things) | ((with_reducible show NoAttr _ _ _); exact Txt.n_Orders_dones T) | (with_reducible exact gt_Orders_dones)  | ((with_reducible show V.ref _ = V.ref _); (first | rfl | fail))
 | ((with_reducible show DGet _ _ _ _); (first | exact DGet.ki (by walk_at "at") (by assumption) | exact DGet.kiF (by walk_at "at") (by assumption) | fail))
 | ((with_reducible show DPut _ _ _ _ _); exact DPut.ki (by walk_at "at") (by assumption))
 | ((with_reducible show Rd _ _ _); (first | exact Or.inl (by walk_at "at") | exact Or.inr ⟨_, by walk_at "at"⟩ | fail))
 | ((with_reducible show (∃ _ : List (Key × V), _) ∨ _); refine Or.inl ⟨_, by walk_at "at", ?_⟩)
 | ((with_reducible show Dv _ _ _ _); focus walk_at "dv") | ((with_reducible show Dv1 _ _ _ _); focus walk_at "dv")
 | ((with_reducible show IsD _ _); exact Or.inl ⟨_, Or.inl (by walk_at "at")⟩)
 | ((with_reducible show V.int _ = kV _); exact kV_int)
 | ((with_reducible show Option.isSome _ = true); (first | exact isSome_ofV (by assumption) | assumption | fail))
 | ((with_reducible show SqL _ _ _ _ ∨ SqT _ _ _ _); (first | exact Or.inl (by assumption) | exact Or.inr (by assumption) | exact Or.inl (SqL.of (by walk_at "at")) | exact Or.inr (SqT.of (by walk_at "at")) | fail))
 | ((with_reducible show Dp _ _ _ _); (first | assumption | exact hO.dpL (by walk_at "mem") | exact .lst (SqL.of (by walk_at "at")) (hO.all (by walk_at "dv")) | exact hO.one (by walk_at "dv") | fail))
 | ((with_reducible show TruV _ _ _ _); (first | exact Or.inl ⟨_, SqL.of (by walk_at "at"), rfl⟩ | exact Or.inr (Or.inr ⟨_, by walk_at "at", rfl⟩) | exact Or.inr (Or.inl ⟨_, SqT.of (by walk_at "at"), rfl⟩) | fail))
 | ((with_reducible show RgOk _ _); exact RgOk.of_le (by omega) (by omega) (by omega) (by omega))
 | rfl | (with_reducible assumption) | apply And.intro | apply Exists.intro | refine iteT ?_ | refine iteF ?_
 | (walk_at "st"; (try walk_at "fl"))
 | ((with_reducible show ∀ _ : Addr, _ = none → _); (fail_if_success (with_reducible show ∀ _ : Addr, _ = none → ∃ _ : Nat → Nat → Hp → Prop, _)); intro p fp; walk_at "st")
 | (refine Or.inl ⟨SqL.of (by walk_at "at"), ?_⟩) | (refine Or.inr ⟨SqT.of (by walk_at "at"), ?_⟩) | exact Or.inl ⟨_, by walk_at "at", rfl⟩ | exact Or.inl ⟨rfl, _, SqL.of (by walk_at "at")⟩ | exact tyl_of (by walk_at "at") | exact Or.inl (SqL.of (by walk_at "at")) | exact Or.inr (SqT.of (by walk_at "at")) | exact Or.inl (by walk_at "at") | exact size_le (Nat.le_of_ble_eq_true rfl) | exact Nat.le_of_ble_eq_true rfl | exact True.intro | exact Or.inl rfl | exact Or.inr rfl | (show (_ : Prop); assumption) | (show (_ : Prop); omega) | (show (_ : Prop); dsimp only; omega) | exact mulw64 (by omega) (by omega) | exact mulw64 (by (try dsimp only); omega) (by (try dsimp only); omega) | fail))
local macro_rules | `(tactic| walk_at "go") => `(tactic| repeat walk_at "g1")

section
variable {P : Program} {w : World} {K : PySem.W.Frag} {mg : Str → Option Value} {base : Heap}
def sp_law (K : PySem.W.Frag) : Sp := fun vs H Q _ => ∃ (a : Addr) (ns : List Int), vs = [.ref a] ∧ SqL K H a (ns.map V.int) ∧ ns.length ≤ 63 ∧ ∀ H', Q (.bl true) H'
theorem ok_law (T : Txt K mg) : FnOk P w K mg base CX0 8 T.f_law T.fd_law ["_law_script"] (sp_law K) := by
  have G_Lright := ok_Lright (P := P) (w := w) (base := base) T
  have G_Lpot := ok_Lpot (P := P) (w := w) (base := base) T
  refine T.F_law.ok sc_law (fun vs H Q E h => ?_) (fun cdv A outer s H vs Q E hr h => ?_)
  · obtain ⟨a, ns, rfl, hS, hl, k⟩ := h; rfl
  · obtain ⟨a, ns, rfl, hS, hl, k⟩ := h
    refine ⟨_, (pss_one (ps_ret (pe_call G_Lright (hr.mono (by decide)) rfl T.g_Lright T.F_Lright.kp T.b_Lright .nil pass0 (pa_cons (pe_call G_Lpot (hr.mono (by decide)) rfl T.g_Lpot T.F_Lpot.kp T.b_Lpot .nil pass0 (pa_cons (pv 0) (pa_cons pe_int pa_nil))) pa_nil)))), ?_⟩
    clear G_Lright G_Lpot
    clear hr
    walk_at "rd"
    intro p H' hO
    walk_at "go"
end
end K71

set_option Elab.async false
set_option linter.all false
set_option maxRecDepth 100000
set_option maxHeartbeats 8000000

namespace K71
open PySem PySem.Spec PyProof.Rows L2 Hx
theorem all_mk {l : PySem.W.OpenLaw} {w : World} {K : PySem.W.Frag} {h : Heap} {mg : Str → Option Value} {fa : Addr} (X : K.In h) (G : h.Ns mainGlobals mg) (hfa : mg "law" = some (.ref fa))
    {C_Orders : Addr}
    {f_is_integer : Addr} {od_is_integer an_is_integer : Option Addr} {sl_is_integer : Array (Option Value)} {oc_is_integer kV_is_integer dc_is_integer pm_is_integer cd_is_integer ct_is_integer : Value}
    {f_is_count : Addr} {od_is_count an_is_count : Option Addr} {sl_is_count : Array (Option Value)} {oc_is_count kV_is_count dc_is_count pm_is_count cd_is_count ct_is_count : Value}
    {f_is_between : Addr} {od_is_between an_is_between : Option Addr} {sl_is_between : Array (Option Value)} {oc_is_between kV_is_between dc_is_between pm_is_between cd_is_between ct_is_between : Value}
    {f_need_many : Addr} {od_need_many an_need_many : Option Addr} {sl_need_many : Array (Option Value)} {oc_need_many kV_need_many dc_need_many pm_need_many cd_need_many ct_need_many : Value}
    {f_need_number : Addr} {od_need_number an_need_number : Option Addr} {sl_need_number : Array (Option Value)} {oc_need_number kV_need_number dc_need_number pm_need_number cd_need_number ct_need_number : Value}
    {f_Orders_init : Addr} {od_Orders_init an_Orders_init : Option Addr} {sl_Orders_init : Array (Option Value)} {oc_Orders_init kV_Orders_init dc_Orders_init pm_Orders_init cd_Orders_init ct_Orders_init : Value}
    {f_Orders_many : Addr} {od_Orders_many an_Orders_many : Option Addr} {sl_Orders_many : Array (Option Value)} {oc_Orders_many kV_Orders_many dc_Orders_many pm_Orders_many cd_Orders_many ct_Orders_many : Value}
    {pa_Orders_many : Addr} {pr_Orders_many : List Value}
    {f_Orders_held : Addr} {od_Orders_held an_Orders_held : Option Addr} {sl_Orders_held : Array (Option Value)} {oc_Orders_held kV_Orders_held dc_Orders_held pm_Orders_held cd_Orders_held ct_Orders_held : Value}
    {pa_Orders_held : Addr} {pr_Orders_held : List Value}
    {f_Orders_upcoming : Addr} {od_Orders_upcoming an_Orders_upcoming : Option Addr} {sl_Orders_upcoming : Array (Option Value)} {oc_Orders_upcoming kV_Orders_upcoming dc_Orders_upcoming pm_Orders_upcoming cd_Orders_upcoming ct_Orders_upcoming : Value}
    {pa_Orders_upcoming : Addr} {pr_Orders_upcoming : List Value}
    {f_Orders_numbers : Addr} {od_Orders_numbers an_Orders_numbers : Option Addr} {sl_Orders_numbers : Array (Option Value)} {oc_Orders_numbers kV_Orders_numbers dc_Orders_numbers pm_Orders_numbers cd_Orders_numbers ct_Orders_numbers : Value}
    {f_Orders_oldest : Addr} {od_Orders_oldest an_Orders_oldest : Option Addr} {sl_Orders_oldest : Array (Option Value)} {oc_Orders_oldest kV_Orders_oldest dc_Orders_oldest pm_Orders_oldest cd_Orders_oldest ct_Orders_oldest : Value}
    {f_Orders_entered : Addr} {od_Orders_entered an_Orders_entered : Option Addr} {sl_Orders_entered : Array (Option Value)} {oc_Orders_entered kV_Orders_entered dc_Orders_entered pm_Orders_entered cd_Orders_entered ct_Orders_entered : Value}
    {f_Orders_thing : Addr} {od_Orders_thing an_Orders_thing : Option Addr} {sl_Orders_thing : Array (Option Value)} {oc_Orders_thing kV_Orders_thing dc_Orders_thing pm_Orders_thing cd_Orders_thing ct_Orders_thing : Value}
    {f_Orders_is_done : Addr} {od_Orders_is_done an_Orders_is_done : Option Addr} {sl_Orders_is_done : Array (Option Value)} {oc_Orders_is_done kV_Orders_is_done dc_Orders_is_done pm_Orders_is_done cd_Orders_is_done ct_Orders_is_done : Value}
    {f_Orders_done : Addr} {od_Orders_done an_Orders_done : Option Addr} {sl_Orders_done : Array (Option Value)} {oc_Orders_done kV_Orders_done dc_Orders_done pm_Orders_done cd_Orders_done ct_Orders_done : Value}
    {f_Orders_left : Addr} {od_Orders_left an_Orders_left : Option Addr} {sl_Orders_left : Array (Option Value)} {oc_Orders_left kV_Orders_left dc_Orders_left pm_Orders_left cd_Orders_left ct_Orders_left : Value}
    {f_Orders_dropped : Addr} {od_Orders_dropped an_Orders_dropped : Option Addr} {sl_Orders_dropped : Array (Option Value)} {oc_Orders_dropped kV_Orders_dropped dc_Orders_dropped pm_Orders_dropped cd_Orders_dropped ct_Orders_dropped : Value}
    {f_Orders_copy : Addr} {od_Orders_copy an_Orders_copy : Option Addr} {sl_Orders_copy : Array (Option Value)} {oc_Orders_copy kV_Orders_copy dc_Orders_copy pm_Orders_copy cd_Orders_copy ct_Orders_copy : Value}
    {f_Orderswhere : Addr} {od_Orderswhere an_Orderswhere : Option Addr} {sl_Orderswhere : Array (Option Value)} {oc_Orderswhere kV_Orderswhere dc_Orderswhere pm_Orderswhere cd_Orderswhere ct_Orderswhere : Value}
    {f_Lpot : Addr} {od_Lpot an_Lpot : Option Addr} {sl_Lpot : Array (Option Value)} {oc_Lpot kV_Lpot dc_Lpot pm_Lpot cd_Lpot ct_Lpot : Value}
    {f_Ldraw : Addr} {od_Ldraw an_Ldraw : Option Addr} {sl_Ldraw : Array (Option Value)} {oc_Ldraw kV_Ldraw dc_Ldraw pm_Ldraw cd_Ldraw ct_Ldraw : Value}
    {f_Lpick : Addr} {od_Lpick an_Lpick : Option Addr} {sl_Lpick : Array (Option Value)} {oc_Lpick kV_Lpick dc_Lpick pm_Lpick cd_Lpick ct_Lpick : Value}
    {f_Lseen : Addr} {od_Lseen an_Lseen : Option Addr} {sl_Lseen : Array (Option Value)} {oc_Lseen kV_Lseen dc_Lseen pm_Lseen cd_Lseen ct_Lseen : Value}
    {f_Ldrop : Addr} {od_Ldrop an_Ldrop : Option Addr} {sl_Ldrop : Array (Option Value)} {oc_Ldrop kV_Ldrop dc_Ldrop pm_Ldrop cd_Ldrop ct_Ldrop : Value}
    {f_Lright : Addr} {od_Lright an_Lright : Option Addr} {sl_Lright : Array (Option Value)} {oc_Lright kV_Lright dc_Lright pm_Lright cd_Lright ct_Lright : Value}
    {f_law : Addr} {od_law an_law : Option Addr} {sl_law : Array (Option Value)} {oc_law kV_law dc_law pm_law cd_law ct_law : Value}
    {t__MOST_ROOMS : Tok}
    (aC_Orders : PySem.W.nsIn K mainGlobals "Orders" = some (some (.ref C_Orders))) (pg_Orders : PySem.W.plainGet K C_Orders Str.empty = true) (hd_Orders : PySem.W.hasDictIn K C_Orders = true) (po_Orders : PySem.W.plainOver K C_Orders = true) (sa_Orders : PySem.W.findIn K (.ref C_Orders) "__setattr__" = some (some (.builtin "object.__setattr__"))) (mk_Orders : PySem.W.makesIn K C_Orders = true) (kc_Orders : PySem.W.keepIn K (.ref C_Orders) = true)
    (n_Orders_many : PySem.W.findIn K (.ref C_Orders) "_many" = some none)
    (n_Orders_first : PySem.W.findIn K (.ref C_Orders) "_first" = some none)
    (n_Orders_things : PySem.W.findIn K (.ref C_Orders) "_things" = some none)
    (n_Orders_dones : PySem.W.findIn K (.ref C_Orders) "_dones" = some none)
    (a_is_integer : PySem.W.nsIn K mainGlobals "is_integer" = some (some (.ref f_is_integer)))
    (l_is_integer : K.lookup f_is_integer = some ⟨oc_is_integer, od_is_integer, .func (PySem.W.fnOf "is_integer" "is_integer" (defArgs s_is_integer) (defBody s_is_integer) (defScope s_is_integer) .none kV_is_integer dc_is_integer pm_is_integer an_is_integer cd_is_integer ct_is_integer), sl_is_integer⟩)
    (c_is_integer : PySem.W.codeIn K cd_is_integer "is_integer" = true) (k_is_integer : PySem.W.keepIn K (.ref f_is_integer) = true)
    (a_is_count : PySem.W.nsIn K mainGlobals "is_count" = some (some (.ref f_is_count)))
    (l_is_count : K.lookup f_is_count = some ⟨oc_is_count, od_is_count, .func (PySem.W.fnOf "is_count" "is_count" (defArgs s_is_count) (defBody s_is_count) (defScope s_is_count) .none kV_is_count dc_is_count pm_is_count an_is_count cd_is_count ct_is_count), sl_is_count⟩)
    (c_is_count : PySem.W.codeIn K cd_is_count "is_count" = true) (k_is_count : PySem.W.keepIn K (.ref f_is_count) = true)
    (a_is_between : PySem.W.nsIn K mainGlobals "is_between" = some (some (.ref f_is_between)))
    (l_is_between : K.lookup f_is_between = some ⟨oc_is_between, od_is_between, .func (PySem.W.fnOf "is_between" "is_between" (defArgs s_is_between) (defBody s_is_between) (defScope s_is_between) .none kV_is_between dc_is_between pm_is_between an_is_between cd_is_between ct_is_between), sl_is_between⟩)
    (c_is_between : PySem.W.codeIn K cd_is_between "is_between" = true) (k_is_between : PySem.W.keepIn K (.ref f_is_between) = true)
    (a_need_many : PySem.W.nsIn K mainGlobals "need_many" = some (some (.ref f_need_many)))
    (l_need_many : K.lookup f_need_many = some ⟨oc_need_many, od_need_many, .func (PySem.W.fnOf "need_many" "need_many" (defArgs s_need_many) (defBody s_need_many) (defScope s_need_many) .none kV_need_many dc_need_many pm_need_many an_need_many cd_need_many ct_need_many), sl_need_many⟩)
    (c_need_many : PySem.W.codeIn K cd_need_many "need_many" = true) (k_need_many : PySem.W.keepIn K (.ref f_need_many) = true)
    (a_need_number : PySem.W.nsIn K mainGlobals "need_number" = some (some (.ref f_need_number)))
    (l_need_number : K.lookup f_need_number = some ⟨oc_need_number, od_need_number, .func (PySem.W.fnOf "need_number" "need_number" (defArgs s_need_number) (defBody s_need_number) (defScope s_need_number) .none kV_need_number dc_need_number pm_need_number an_need_number cd_need_number ct_need_number), sl_need_number⟩)
    (c_need_number : PySem.W.codeIn K cd_need_number "need_number" = true) (k_need_number : PySem.W.keepIn K (.ref f_need_number) = true)
    (a_Orders_init : PySem.W.findIn K (.ref C_Orders) "__init__" = some (some (.ref f_Orders_init)))
    (i_Orders_init : PySem.W.isFn K (.ref f_Orders_init) = true)
    (l_Orders_init : K.lookup f_Orders_init = some ⟨oc_Orders_init, od_Orders_init, .func (PySem.W.fnOf "__init__" "Orders.__init__" (defArgs s_Orders_init) (defBody s_Orders_init) (defScope s_Orders_init) .none kV_Orders_init dc_Orders_init pm_Orders_init an_Orders_init cd_Orders_init ct_Orders_init), sl_Orders_init⟩)
    (c_Orders_init : PySem.W.codeIn K cd_Orders_init "Orders.__init__" = true) (k_Orders_init : PySem.W.keepIn K (.ref f_Orders_init) = true)
    (a_Orders_many : PySem.W.findIn K (.ref C_Orders) "many" = some (some (.ref pa_Orders_many))) (pg_Orders_many : PySem.W.specialIn K (.ref pa_Orders_many) "__get__" = some (some (.builtin "property.__get__"))) (pt_Orders_many : PySem.W.takesIn K (.ref pa_Orders_many) = some true) (pq_Orders_many : PySem.W.recIn K pa_Orders_many "property" = some (.ref f_Orders_many :: pr_Orders_many))
    (l_Orders_many : K.lookup f_Orders_many = some ⟨oc_Orders_many, od_Orders_many, .func (PySem.W.fnOf "many" "Orders.many" (defArgs s_Orders_many) (defBody s_Orders_many) (defScope s_Orders_many) .none kV_Orders_many dc_Orders_many pm_Orders_many an_Orders_many cd_Orders_many ct_Orders_many), sl_Orders_many⟩)
    (c_Orders_many : PySem.W.codeIn K cd_Orders_many "Orders.many" = true) (k_Orders_many : PySem.W.keepIn K (.ref f_Orders_many) = true)
    (a_Orders_held : PySem.W.findIn K (.ref C_Orders) "held" = some (some (.ref pa_Orders_held))) (pg_Orders_held : PySem.W.specialIn K (.ref pa_Orders_held) "__get__" = some (some (.builtin "property.__get__"))) (pt_Orders_held : PySem.W.takesIn K (.ref pa_Orders_held) = some true) (pq_Orders_held : PySem.W.recIn K pa_Orders_held "property" = some (.ref f_Orders_held :: pr_Orders_held))
    (l_Orders_held : K.lookup f_Orders_held = some ⟨oc_Orders_held, od_Orders_held, .func (PySem.W.fnOf "held" "Orders.held" (defArgs s_Orders_held) (defBody s_Orders_held) (defScope s_Orders_held) .none kV_Orders_held dc_Orders_held pm_Orders_held an_Orders_held cd_Orders_held ct_Orders_held), sl_Orders_held⟩)
    (c_Orders_held : PySem.W.codeIn K cd_Orders_held "Orders.held" = true) (k_Orders_held : PySem.W.keepIn K (.ref f_Orders_held) = true)
    (a_Orders_upcoming : PySem.W.findIn K (.ref C_Orders) "upcoming" = some (some (.ref pa_Orders_upcoming))) (pg_Orders_upcoming : PySem.W.specialIn K (.ref pa_Orders_upcoming) "__get__" = some (some (.builtin "property.__get__"))) (pt_Orders_upcoming : PySem.W.takesIn K (.ref pa_Orders_upcoming) = some true) (pq_Orders_upcoming : PySem.W.recIn K pa_Orders_upcoming "property" = some (.ref f_Orders_upcoming :: pr_Orders_upcoming))
    (l_Orders_upcoming : K.lookup f_Orders_upcoming = some ⟨oc_Orders_upcoming, od_Orders_upcoming, .func (PySem.W.fnOf "upcoming" "Orders.upcoming" (defArgs s_Orders_upcoming) (defBody s_Orders_upcoming) (defScope s_Orders_upcoming) .none kV_Orders_upcoming dc_Orders_upcoming pm_Orders_upcoming an_Orders_upcoming cd_Orders_upcoming ct_Orders_upcoming), sl_Orders_upcoming⟩)
    (c_Orders_upcoming : PySem.W.codeIn K cd_Orders_upcoming "Orders.upcoming" = true) (k_Orders_upcoming : PySem.W.keepIn K (.ref f_Orders_upcoming) = true)
    (a_Orders_numbers : PySem.W.findIn K (.ref C_Orders) "numbers" = some (some (.ref f_Orders_numbers)))
    (i_Orders_numbers : PySem.W.isFn K (.ref f_Orders_numbers) = true)
    (l_Orders_numbers : K.lookup f_Orders_numbers = some ⟨oc_Orders_numbers, od_Orders_numbers, .func (PySem.W.fnOf "numbers" "Orders.numbers" (defArgs s_Orders_numbers) (defBody s_Orders_numbers) (defScope s_Orders_numbers) .none kV_Orders_numbers dc_Orders_numbers pm_Orders_numbers an_Orders_numbers cd_Orders_numbers ct_Orders_numbers), sl_Orders_numbers⟩)
    (c_Orders_numbers : PySem.W.codeIn K cd_Orders_numbers "Orders.numbers" = true) (k_Orders_numbers : PySem.W.keepIn K (.ref f_Orders_numbers) = true)
    (a_Orders_oldest : PySem.W.findIn K (.ref C_Orders) "oldest" = some (some (.ref f_Orders_oldest)))
    (i_Orders_oldest : PySem.W.isFn K (.ref f_Orders_oldest) = true)
    (l_Orders_oldest : K.lookup f_Orders_oldest = some ⟨oc_Orders_oldest, od_Orders_oldest, .func (PySem.W.fnOf "oldest" "Orders.oldest" (defArgs s_Orders_oldest) (defBody s_Orders_oldest) (defScope s_Orders_oldest) .none kV_Orders_oldest dc_Orders_oldest pm_Orders_oldest an_Orders_oldest cd_Orders_oldest ct_Orders_oldest), sl_Orders_oldest⟩)
    (c_Orders_oldest : PySem.W.codeIn K cd_Orders_oldest "Orders.oldest" = true) (k_Orders_oldest : PySem.W.keepIn K (.ref f_Orders_oldest) = true)
    (a_Orders_entered : PySem.W.findIn K (.ref C_Orders) "entered" = some (some (.ref f_Orders_entered)))
    (i_Orders_entered : PySem.W.isFn K (.ref f_Orders_entered) = true)
    (l_Orders_entered : K.lookup f_Orders_entered = some ⟨oc_Orders_entered, od_Orders_entered, .func (PySem.W.fnOf "entered" "Orders.entered" (defArgs s_Orders_entered) (defBody s_Orders_entered) (defScope s_Orders_entered) .none kV_Orders_entered dc_Orders_entered pm_Orders_entered an_Orders_entered cd_Orders_entered ct_Orders_entered), sl_Orders_entered⟩)
    (c_Orders_entered : PySem.W.codeIn K cd_Orders_entered "Orders.entered" = true) (k_Orders_entered : PySem.W.keepIn K (.ref f_Orders_entered) = true)
    (a_Orders_thing : PySem.W.findIn K (.ref C_Orders) "thing" = some (some (.ref f_Orders_thing)))
    (i_Orders_thing : PySem.W.isFn K (.ref f_Orders_thing) = true)
    (l_Orders_thing : K.lookup f_Orders_thing = some ⟨oc_Orders_thing, od_Orders_thing, .func (PySem.W.fnOf "thing" "Orders.thing" (defArgs s_Orders_thing) (defBody s_Orders_thing) (defScope s_Orders_thing) .none kV_Orders_thing dc_Orders_thing pm_Orders_thing an_Orders_thing cd_Orders_thing ct_Orders_thing), sl_Orders_thing⟩)
    (c_Orders_thing : PySem.W.codeIn K cd_Orders_thing "Orders.thing" = true) (k_Orders_thing : PySem.W.keepIn K (.ref f_Orders_thing) = true)
    (a_Orders_is_done : PySem.W.findIn K (.ref C_Orders) "is_done" = some (some (.ref f_Orders_is_done)))
    (i_Orders_is_done : PySem.W.isFn K (.ref f_Orders_is_done) = true)
    (l_Orders_is_done : K.lookup f_Orders_is_done = some ⟨oc_Orders_is_done, od_Orders_is_done, .func (PySem.W.fnOf "is_done" "Orders.is_done" (defArgs s_Orders_is_done) (defBody s_Orders_is_done) (defScope s_Orders_is_done) .none kV_Orders_is_done dc_Orders_is_done pm_Orders_is_done an_Orders_is_done cd_Orders_is_done ct_Orders_is_done), sl_Orders_is_done⟩)
    (c_Orders_is_done : PySem.W.codeIn K cd_Orders_is_done "Orders.is_done" = true) (k_Orders_is_done : PySem.W.keepIn K (.ref f_Orders_is_done) = true)
    (a_Orders_done : PySem.W.findIn K (.ref C_Orders) "done" = some (some (.ref f_Orders_done)))
    (i_Orders_done : PySem.W.isFn K (.ref f_Orders_done) = true)
    (l_Orders_done : K.lookup f_Orders_done = some ⟨oc_Orders_done, od_Orders_done, .func (PySem.W.fnOf "done" "Orders.done" (defArgs s_Orders_done) (defBody s_Orders_done) (defScope s_Orders_done) .none kV_Orders_done dc_Orders_done pm_Orders_done an_Orders_done cd_Orders_done ct_Orders_done), sl_Orders_done⟩)
    (c_Orders_done : PySem.W.codeIn K cd_Orders_done "Orders.done" = true) (k_Orders_done : PySem.W.keepIn K (.ref f_Orders_done) = true)
    (a_Orders_left : PySem.W.findIn K (.ref C_Orders) "left" = some (some (.ref f_Orders_left)))
    (i_Orders_left : PySem.W.isFn K (.ref f_Orders_left) = true)
    (l_Orders_left : K.lookup f_Orders_left = some ⟨oc_Orders_left, od_Orders_left, .func (PySem.W.fnOf "left" "Orders.left" (defArgs s_Orders_left) (defBody s_Orders_left) (defScope s_Orders_left) .none kV_Orders_left dc_Orders_left pm_Orders_left an_Orders_left cd_Orders_left ct_Orders_left), sl_Orders_left⟩)
    (c_Orders_left : PySem.W.codeIn K cd_Orders_left "Orders.left" = true) (k_Orders_left : PySem.W.keepIn K (.ref f_Orders_left) = true)
    (a_Orders_dropped : PySem.W.findIn K (.ref C_Orders) "dropped" = some (some (.ref f_Orders_dropped)))
    (i_Orders_dropped : PySem.W.isFn K (.ref f_Orders_dropped) = true)
    (l_Orders_dropped : K.lookup f_Orders_dropped = some ⟨oc_Orders_dropped, od_Orders_dropped, .func (PySem.W.fnOf "dropped" "Orders.dropped" (defArgs s_Orders_dropped) (defBody s_Orders_dropped) (defScope s_Orders_dropped) .none kV_Orders_dropped dc_Orders_dropped pm_Orders_dropped an_Orders_dropped cd_Orders_dropped ct_Orders_dropped), sl_Orders_dropped⟩)
    (c_Orders_dropped : PySem.W.codeIn K cd_Orders_dropped "Orders.dropped" = true) (k_Orders_dropped : PySem.W.keepIn K (.ref f_Orders_dropped) = true)
    (a_Orders_copy : PySem.W.findIn K (.ref C_Orders) "copy" = some (some (.ref f_Orders_copy)))
    (i_Orders_copy : PySem.W.isFn K (.ref f_Orders_copy) = true)
    (l_Orders_copy : K.lookup f_Orders_copy = some ⟨oc_Orders_copy, od_Orders_copy, .func (PySem.W.fnOf "copy" "Orders.copy" (defArgs s_Orders_copy) (defBody s_Orders_copy) (defScope s_Orders_copy) .none kV_Orders_copy dc_Orders_copy pm_Orders_copy an_Orders_copy cd_Orders_copy ct_Orders_copy), sl_Orders_copy⟩)
    (c_Orders_copy : PySem.W.codeIn K cd_Orders_copy "Orders.copy" = true) (k_Orders_copy : PySem.W.keepIn K (.ref f_Orders_copy) = true)
    (a_Orderswhere : PySem.W.findIn K (.ref C_Orders) "_where" = some (some (.ref f_Orderswhere)))
    (i_Orderswhere : PySem.W.isFn K (.ref f_Orderswhere) = true)
    (l_Orderswhere : K.lookup f_Orderswhere = some ⟨oc_Orderswhere, od_Orderswhere, .func (PySem.W.fnOf "_where" "Orders._where" (defArgs s_Orderswhere) (defBody s_Orderswhere) (defScope s_Orderswhere) .none kV_Orderswhere dc_Orderswhere pm_Orderswhere an_Orderswhere cd_Orderswhere ct_Orderswhere), sl_Orderswhere⟩)
    (c_Orderswhere : PySem.W.codeIn K cd_Orderswhere "Orders._where" = true) (k_Orderswhere : PySem.W.keepIn K (.ref f_Orderswhere) = true)
    (a_Lpot : PySem.W.nsIn K mainGlobals "_law_pot" = some (some (.ref f_Lpot)))
    (l_Lpot : K.lookup f_Lpot = some ⟨oc_Lpot, od_Lpot, .func (PySem.W.fnOf "_law_pot" "_law_pot" (defArgs s_Lpot) (defBody s_Lpot) (defScope s_Lpot) .none kV_Lpot dc_Lpot pm_Lpot an_Lpot cd_Lpot ct_Lpot), sl_Lpot⟩)
    (c_Lpot : PySem.W.codeIn K cd_Lpot "_law_pot" = true) (k_Lpot : PySem.W.keepIn K (.ref f_Lpot) = true)
    (a_Ldraw : PySem.W.nsIn K mainGlobals "_law_draw" = some (some (.ref f_Ldraw)))
    (l_Ldraw : K.lookup f_Ldraw = some ⟨oc_Ldraw, od_Ldraw, .func (PySem.W.fnOf "_law_draw" "_law_draw" (defArgs s_Ldraw) (defBody s_Ldraw) (defScope s_Ldraw) .none kV_Ldraw dc_Ldraw pm_Ldraw an_Ldraw cd_Ldraw ct_Ldraw), sl_Ldraw⟩)
    (c_Ldraw : PySem.W.codeIn K cd_Ldraw "_law_draw" = true) (k_Ldraw : PySem.W.keepIn K (.ref f_Ldraw) = true)
    (a_Lpick : PySem.W.nsIn K mainGlobals "_law_pick" = some (some (.ref f_Lpick)))
    (l_Lpick : K.lookup f_Lpick = some ⟨oc_Lpick, od_Lpick, .func (PySem.W.fnOf "_law_pick" "_law_pick" (defArgs s_Lpick) (defBody s_Lpick) (defScope s_Lpick) .none kV_Lpick dc_Lpick pm_Lpick an_Lpick cd_Lpick ct_Lpick), sl_Lpick⟩)
    (c_Lpick : PySem.W.codeIn K cd_Lpick "_law_pick" = true) (k_Lpick : PySem.W.keepIn K (.ref f_Lpick) = true)
    (a_Lseen : PySem.W.nsIn K mainGlobals "_law_seen" = some (some (.ref f_Lseen)))
    (l_Lseen : K.lookup f_Lseen = some ⟨oc_Lseen, od_Lseen, .func (PySem.W.fnOf "_law_seen" "_law_seen" (defArgs s_Lseen) (defBody s_Lseen) (defScope s_Lseen) .none kV_Lseen dc_Lseen pm_Lseen an_Lseen cd_Lseen ct_Lseen), sl_Lseen⟩)
    (c_Lseen : PySem.W.codeIn K cd_Lseen "_law_seen" = true) (k_Lseen : PySem.W.keepIn K (.ref f_Lseen) = true)
    (a_Ldrop : PySem.W.nsIn K mainGlobals "_law_drop" = some (some (.ref f_Ldrop)))
    (l_Ldrop : K.lookup f_Ldrop = some ⟨oc_Ldrop, od_Ldrop, .func (PySem.W.fnOf "_law_drop" "_law_drop" (defArgs s_Ldrop) (defBody s_Ldrop) (defScope s_Ldrop) .none kV_Ldrop dc_Ldrop pm_Ldrop an_Ldrop cd_Ldrop ct_Ldrop), sl_Ldrop⟩)
    (c_Ldrop : PySem.W.codeIn K cd_Ldrop "_law_drop" = true) (k_Ldrop : PySem.W.keepIn K (.ref f_Ldrop) = true)
    (a_Lright : PySem.W.nsIn K mainGlobals "_law_right" = some (some (.ref f_Lright)))
    (l_Lright : K.lookup f_Lright = some ⟨oc_Lright, od_Lright, .func (PySem.W.fnOf "_law_right" "_law_right" (defArgs s_Lright) (defBody s_Lright) (defScope s_Lright) .none kV_Lright dc_Lright pm_Lright an_Lright cd_Lright ct_Lright), sl_Lright⟩)
    (c_Lright : PySem.W.codeIn K cd_Lright "_law_right" = true) (k_Lright : PySem.W.keepIn K (.ref f_Lright) = true)
    (a_law : PySem.W.nsIn K mainGlobals "law" = some (some (.ref f_law)))
    (l_law : K.lookup f_law = some ⟨oc_law, od_law, .func (PySem.W.fnOf "law" "law" (defArgs s_law) (defBody s_law) (defScope s_law) .none kV_law dc_law pm_law an_law cd_law ct_law), sl_law⟩)
    (c_law : PySem.W.codeIn K cd_law "law" = true) (k_law : PySem.W.keepIn K (.ref f_law) = true)
    (z_abs : PySem.W.nsIn K mainGlobals "abs" = some none)
    (z_bool : PySem.W.nsIn K mainGlobals "bool" = some none)
    (z_divmod : PySem.W.nsIn K mainGlobals "divmod" = some none)
    (z_enumerate : PySem.W.nsIn K mainGlobals "enumerate" = some none)
    (z_int : PySem.W.nsIn K mainGlobals "int" = some none)
    (z_isinstance : PySem.W.nsIn K mainGlobals "isinstance" = some none)
    (z_len : PySem.W.nsIn K mainGlobals "len" = some none)
    (z_list : PySem.W.nsIn K mainGlobals "list" = some none)
    (z_max : PySem.W.nsIn K mainGlobals "max" = some none)
    (z_range : PySem.W.nsIn K mainGlobals "range" = some none)
    (z_repr : PySem.W.nsIn K mainGlobals "repr" = some none)
    (x__MOST_ROOMS : PySem.W.nsIn K mainGlobals "_MOST_ROOMS" = some (some (.int 32 t__MOST_ROOMS)))
    : ∃ fd : FuncData, (∀ (s : Shared) (v : Value), BindsTo s fd ⟨[v], []⟩ [("_law_script", v)]) ∧ ∀ base : Heap, K.In base → base.Ns mainGlobals mg → FnOk l.prog w K mg base CX0 8 fa fd ["_law_script"] (sp_law K) := by
  have e := hfa.symm.trans (PySem.W.mg_of X G a_law)
  cases e
  let T : Txt K mg := {
    C_Orders := C_Orders, cl_Orders := ⟨pg_Orders, hd_Orders, po_Orders, sa_Orders⟩, g_Orders := PySem.W.mg_of X G aC_Orders,
    n_Orders_many := n_Orders_many,
    n_Orders_first := n_Orders_first,
    n_Orders_things := n_Orders_things,
    n_Orders_dones := n_Orders_dones,
    f_is_integer := _, fd_is_integer := _, F_is_integer := fun_mk (st := s_is_integer) l_is_integer c_is_integer k_is_integer,
    g_is_integer := PySem.W.mg_of X G a_is_integer,
    b_is_integer := (fun_mk (st := s_is_integer) l_is_integer c_is_integer k_is_integer).binds (ps := ["value"]) fun _ _ _ _ _ _ us hl => match us, hl with | [_], _ => rfl,
    f_is_count := _, fd_is_count := _, F_is_count := fun_mk (st := s_is_count) l_is_count c_is_count k_is_count,
    g_is_count := PySem.W.mg_of X G a_is_count,
    b_is_count := (fun_mk (st := s_is_count) l_is_count c_is_count k_is_count).binds (ps := ["value"]) fun _ _ _ _ _ _ us hl => match us, hl with | [_], _ => rfl,
    f_is_between := _, fd_is_between := _, F_is_between := fun_mk (st := s_is_between) l_is_between c_is_between k_is_between,
    g_is_between := PySem.W.mg_of X G a_is_between,
    b_is_between := (fun_mk (st := s_is_between) l_is_between c_is_between k_is_between).binds (ps := ["value", "least", "most"]) fun _ _ _ _ _ _ us hl => match us, hl with | [_, _, _], _ => rfl,
    f_need_many := _, fd_need_many := _, F_need_many := fun_mk (st := s_need_many) l_need_many c_need_many k_need_many,
    g_need_many := PySem.W.mg_of X G a_need_many,
    b_need_many := (fun_mk (st := s_need_many) l_need_many c_need_many k_need_many).binds (ps := ["value", "least", "most"]) fun _ _ _ _ _ _ us hl => match us, hl with | [_, _, _], _ => rfl,
    f_need_number := _, fd_need_number := _, F_need_number := fun_mk (st := s_need_number) l_need_number c_need_number k_need_number,
    g_need_number := PySem.W.mg_of X G a_need_number,
    b_need_number := (fun_mk (st := s_need_number) l_need_number c_need_number k_need_number).binds (ps := ["value"]) fun _ _ _ _ _ _ us hl => match us, hl with | [_], _ => rfl,
    mk_Orders := ⟨mk_Orders, a_Orders_init, i_Orders_init, kc_Orders⟩,
    f_Orders_init := _, fd_Orders_init := _, F_Orders_init := fun_mk (st := s_Orders_init) l_Orders_init c_Orders_init k_Orders_init,
    b_Orders_init := (fun_mk (st := s_Orders_init) l_Orders_init c_Orders_init k_Orders_init).binds (ps := ["self", "many"]) fun _ _ _ _ _ _ us hl => match us, hl with | [_, _], _ => rfl,
    pa_Orders_many := pa_Orders_many, p_Orders_many := ⟨a_Orders_many, pg_Orders_many, pt_Orders_many, ⟨_, pq_Orders_many⟩⟩,
    f_Orders_many := _, fd_Orders_many := _, F_Orders_many := fun_mk (st := s_Orders_many) l_Orders_many c_Orders_many k_Orders_many,
    b_Orders_many := (fun_mk (st := s_Orders_many) l_Orders_many c_Orders_many k_Orders_many).binds (ps := ["self"]) fun _ _ _ _ _ _ us hl => match us, hl with | [_], _ => rfl,
    pa_Orders_held := pa_Orders_held, p_Orders_held := ⟨a_Orders_held, pg_Orders_held, pt_Orders_held, ⟨_, pq_Orders_held⟩⟩,
    f_Orders_held := _, fd_Orders_held := _, F_Orders_held := fun_mk (st := s_Orders_held) l_Orders_held c_Orders_held k_Orders_held,
    b_Orders_held := (fun_mk (st := s_Orders_held) l_Orders_held c_Orders_held k_Orders_held).binds (ps := ["self"]) fun _ _ _ _ _ _ us hl => match us, hl with | [_], _ => rfl,
    pa_Orders_upcoming := pa_Orders_upcoming, p_Orders_upcoming := ⟨a_Orders_upcoming, pg_Orders_upcoming, pt_Orders_upcoming, ⟨_, pq_Orders_upcoming⟩⟩,
    f_Orders_upcoming := _, fd_Orders_upcoming := _, F_Orders_upcoming := fun_mk (st := s_Orders_upcoming) l_Orders_upcoming c_Orders_upcoming k_Orders_upcoming,
    b_Orders_upcoming := (fun_mk (st := s_Orders_upcoming) l_Orders_upcoming c_Orders_upcoming k_Orders_upcoming).binds (ps := ["self"]) fun _ _ _ _ _ _ us hl => match us, hl with | [_], _ => rfl,
    me_Orders_numbers := ⟨a_Orders_numbers, i_Orders_numbers, k_Orders_numbers⟩,
    f_Orders_numbers := _, fd_Orders_numbers := _, F_Orders_numbers := fun_mk (st := s_Orders_numbers) l_Orders_numbers c_Orders_numbers k_Orders_numbers,
    b_Orders_numbers := (fun_mk (st := s_Orders_numbers) l_Orders_numbers c_Orders_numbers k_Orders_numbers).binds (ps := ["self"]) fun _ _ _ _ _ _ us hl => match us, hl with | [_], _ => rfl,
    me_Orders_oldest := ⟨a_Orders_oldest, i_Orders_oldest, k_Orders_oldest⟩,
    f_Orders_oldest := _, fd_Orders_oldest := _, F_Orders_oldest := fun_mk (st := s_Orders_oldest) l_Orders_oldest c_Orders_oldest k_Orders_oldest,
    b_Orders_oldest := (fun_mk (st := s_Orders_oldest) l_Orders_oldest c_Orders_oldest k_Orders_oldest).binds (ps := ["self"]) fun _ _ _ _ _ _ us hl => match us, hl with | [_], _ => rfl,
    me_Orders_entered := ⟨a_Orders_entered, i_Orders_entered, k_Orders_entered⟩,
    f_Orders_entered := _, fd_Orders_entered := _, F_Orders_entered := fun_mk (st := s_Orders_entered) l_Orders_entered c_Orders_entered k_Orders_entered,
    b_Orders_entered := (fun_mk (st := s_Orders_entered) l_Orders_entered c_Orders_entered k_Orders_entered).binds (ps := ["self", "thing"]) fun _ _ _ _ _ _ us hl => match us, hl with | [_, _], _ => rfl,
    me_Orders_thing := ⟨a_Orders_thing, i_Orders_thing, k_Orders_thing⟩,
    f_Orders_thing := _, fd_Orders_thing := _, F_Orders_thing := fun_mk (st := s_Orders_thing) l_Orders_thing c_Orders_thing k_Orders_thing,
    b_Orders_thing := (fun_mk (st := s_Orders_thing) l_Orders_thing c_Orders_thing k_Orders_thing).binds (ps := ["self", "number"]) fun _ _ _ _ _ _ us hl => match us, hl with | [_, _], _ => rfl,
    me_Orders_is_done := ⟨a_Orders_is_done, i_Orders_is_done, k_Orders_is_done⟩,
    f_Orders_is_done := _, fd_Orders_is_done := _, F_Orders_is_done := fun_mk (st := s_Orders_is_done) l_Orders_is_done c_Orders_is_done k_Orders_is_done,
    b_Orders_is_done := (fun_mk (st := s_Orders_is_done) l_Orders_is_done c_Orders_is_done k_Orders_is_done).binds (ps := ["self", "number"]) fun _ _ _ _ _ _ us hl => match us, hl with | [_, _], _ => rfl,
    me_Orders_done := ⟨a_Orders_done, i_Orders_done, k_Orders_done⟩,
    f_Orders_done := _, fd_Orders_done := _, F_Orders_done := fun_mk (st := s_Orders_done) l_Orders_done c_Orders_done k_Orders_done,
    b_Orders_done := (fun_mk (st := s_Orders_done) l_Orders_done c_Orders_done k_Orders_done).binds (ps := ["self", "number"]) fun _ _ _ _ _ _ us hl => match us, hl with | [_, _], _ => rfl,
    me_Orders_left := ⟨a_Orders_left, i_Orders_left, k_Orders_left⟩,
    f_Orders_left := _, fd_Orders_left := _, F_Orders_left := fun_mk (st := s_Orders_left) l_Orders_left c_Orders_left k_Orders_left,
    b_Orders_left := (fun_mk (st := s_Orders_left) l_Orders_left c_Orders_left k_Orders_left).binds (ps := ["self"]) fun _ _ _ _ _ _ us hl => match us, hl with | [_], _ => rfl,
    me_Orders_dropped := ⟨a_Orders_dropped, i_Orders_dropped, k_Orders_dropped⟩,
    f_Orders_dropped := _, fd_Orders_dropped := _, F_Orders_dropped := fun_mk (st := s_Orders_dropped) l_Orders_dropped c_Orders_dropped k_Orders_dropped,
    b_Orders_dropped := (fun_mk (st := s_Orders_dropped) l_Orders_dropped c_Orders_dropped k_Orders_dropped).binds (ps := ["self", "number"]) fun _ _ _ _ _ _ us hl => match us, hl with | [_, _], _ => rfl,
    me_Orders_copy := ⟨a_Orders_copy, i_Orders_copy, k_Orders_copy⟩,
    f_Orders_copy := _, fd_Orders_copy := _, F_Orders_copy := fun_mk (st := s_Orders_copy) l_Orders_copy c_Orders_copy k_Orders_copy,
    b_Orders_copy := (fun_mk (st := s_Orders_copy) l_Orders_copy c_Orders_copy k_Orders_copy).binds (ps := ["self"]) fun _ _ _ _ _ _ us hl => match us, hl with | [_], _ => rfl,
    me_Orderswhere := ⟨a_Orderswhere, i_Orderswhere, k_Orderswhere⟩,
    f_Orderswhere := _, fd_Orderswhere := _, F_Orderswhere := fun_mk (st := s_Orderswhere) l_Orderswhere c_Orderswhere k_Orderswhere,
    b_Orderswhere := (fun_mk (st := s_Orderswhere) l_Orderswhere c_Orderswhere k_Orderswhere).binds (ps := ["self", "number"]) fun _ _ _ _ _ _ us hl => match us, hl with | [_, _], _ => rfl,
    f_Lpot := _, fd_Lpot := _, F_Lpot := fun_mk (st := s_Lpot) l_Lpot c_Lpot k_Lpot,
    g_Lpot := PySem.W.mg_of X G a_Lpot,
    b_Lpot := (fun_mk (st := s_Lpot) l_Lpot c_Lpot k_Lpot).binds (ps := ["_law_script", "_law_k"]) fun _ _ _ _ _ _ us hl => match us, hl with | [_, _], _ => rfl,
    f_Ldraw := _, fd_Ldraw := _, F_Ldraw := fun_mk (st := s_Ldraw) l_Ldraw c_Ldraw k_Ldraw,
    g_Ldraw := PySem.W.mg_of X G a_Ldraw,
    b_Ldraw := (fun_mk (st := s_Ldraw) l_Ldraw c_Ldraw k_Ldraw).binds (ps := ["_law_pot_here", "_law_sides"]) fun _ _ _ _ _ _ us hl => match us, hl with | [_, _], _ => rfl,
    f_Lpick := _, fd_Lpick := _, F_Lpick := fun_mk (st := s_Lpick) l_Lpick c_Lpick k_Lpick,
    g_Lpick := PySem.W.mg_of X G a_Lpick,
    b_Lpick := (fun_mk (st := s_Lpick) l_Lpick c_Lpick k_Lpick).binds (ps := ["_law_pot_here", "_law_some"]) fun _ _ _ _ _ _ us hl => match us, hl with | [_, _], _ => rfl,
    f_Lseen := _, fd_Lseen := _, F_Lseen := fun_mk (st := s_Lseen) l_Lseen c_Lseen k_Lseen,
    g_Lseen := PySem.W.mg_of X G a_Lseen,
    b_Lseen := (fun_mk (st := s_Lseen) l_Lseen c_Lseen k_Lseen).binds (ps := ["_law_orders", "_law_own", "_law_first", "_law_many"]) fun _ _ _ _ _ _ us hl => match us, hl with | [_, _, _, _], _ => rfl,
    f_Ldrop := _, fd_Ldrop := _, F_Ldrop := fun_mk (st := s_Ldrop) l_Ldrop c_Ldrop k_Ldrop,
    g_Ldrop := PySem.W.mg_of X G a_Ldrop,
    b_Ldrop := (fun_mk (st := s_Ldrop) l_Ldrop c_Ldrop k_Ldrop).binds (ps := ["_law_orders", "_law_own", "_law_first", "_law_number"]) fun _ _ _ _ _ _ us hl => match us, hl with | [_, _, _, _], _ => rfl,
    f_Lright := _, fd_Lright := _, F_Lright := fun_mk (st := s_Lright) l_Lright c_Lright k_Lright,
    g_Lright := PySem.W.mg_of X G a_Lright,
    b_Lright := (fun_mk (st := s_Lright) l_Lright c_Lright k_Lright).binds (ps := ["_law_pot_here"]) fun _ _ _ _ _ _ us hl => match us, hl with | [_], _ => rfl,
    f_law := _, fd_law := _, F_law := fun_mk (st := s_law) l_law c_law k_law,
    g_law := PySem.W.mg_of X G a_law,
    b_law := (fun_mk (st := s_law) l_law c_law k_law).binds (ps := ["_law_script"]) fun _ _ _ _ _ _ us hl => match us, hl with | [_], _ => rfl,
    m_abs := PySem.W.mg_none_of X G z_abs,
    m_bool := PySem.W.mg_none_of X G z_bool,
    m_divmod := PySem.W.mg_none_of X G z_divmod,
    m_enumerate := PySem.W.mg_none_of X G z_enumerate,
    m_int := PySem.W.mg_none_of X G z_int,
    m_isinstance := PySem.W.mg_none_of X G z_isinstance,
    m_len := PySem.W.mg_none_of X G z_len,
    m_list := PySem.W.mg_none_of X G z_list,
    m_max := PySem.W.mg_none_of X G z_max,
    m_range := PySem.W.mg_none_of X G z_range,
    m_repr := PySem.W.mg_none_of X G z_repr,
    c__MOST_ROOMS := ⟨_, PySem.W.mg_of X G x__MOST_ROOMS⟩ }
  exact ⟨_, fun s v => .of_eq rfl, fun base _ _ => ok_law (P := l.prog) (w := w) (base := base) T⟩
theorem walk {l : PySem.W.OpenLaw} {q : Program} {loose : List Str} {XP : (Str → Option Value) → Heap → Prop} {YP : World → Heap → Prop} {d : DefRec} {K : Params → PySem.W.Frag} (hn : l.most = some 63) (hdf : d.params.defaults = [])
    (hY : ∀ (w : World) (h : Heap), YP w h → (K w.params).In h)
    (F : ∀ (w : World) (mg : Str → Option Value) (fa : Addr) (h : Heap), (K w.params).In h → h.Ns mainGlobals mg → mg d.name = some (.ref fa) →
      ∃ fd : FuncData, (∀ (s : Shared) (u : Value), BindsTo s fd ⟨[u], []⟩ [("_law_script", u)]) ∧ ∀ base : Heap, (K w.params).In base → base.Ns mainGlobals mg → FnOk l.prog w (K w.params) mg base CX0 8 fa fd ["_law_script"] (sp_law (K w.params))) :
    PySem.W.WalkO q loose XP YP l.row.toRowW d [] (fun f vs => PySem.call f vs) :=
  L2.walk_of (n := 63) (k := 8) (x := "_law_script") (CX := fun _ => CX0) (sp := fun w => sp_law (K w.params)) hn (by decide) hdf ⟨rfl, by decide, by decide⟩ hY F (fun _ _ a ns hl _ hS => ⟨a, ns, rfl, hS, hl, fun _ => rfl⟩) fun _ _ _ _ _ z => z
end K71
open PySem PySem.W PyProof.Rows
set_option maxRecDepth 100000 in
set_option maxHeartbeats 0 in
theorem PySem.Challenge.cw_orderlycore_k71_whole_orders_by_an_own_l_holds : PySem.Challenge.rw_orderlycore_k71_whole_orders_by_an_own_l.Holds := by
  w_on; o_law; k_head; (case hw => w_witness2)
  k_fill
  refine K71.walk (l := PySem.Challenge.rw_orderlycore_k71_whole_orders_by_an_own_l) rfl rfl (fun w h Y => PySem.W.kIn_of Y) ?F
  case F =>
    intro w mg fa h KX G hmg
    refine' K71.all_mk KX G hmg ?aC_Orders ?pg_Orders ?hd_Orders ?po_Orders ?sa_Orders ?mk_Orders ?kc_Orders ?n_Orders_many ?n_Orders_first ?n_Orders_things ?n_Orders_dones ?a_is_integer ?l_is_integer ?c_is_integer ?k_is_integer ?a_is_count ?l_is_count ?c_is_count ?k_is_count ?a_is_between ?l_is_between ?c_is_between ?k_is_between ?a_need_many ?l_need_many ?c_need_many ?k_need_many ?a_need_number ?l_need_number ?c_need_number ?k_need_number ?a_Orders_init ?i_Orders_init ?l_Orders_init ?c_Orders_init ?k_Orders_init ?a_Orders_many ?pg_Orders_many ?pt_Orders_many ?pq_Orders_many ?l_Orders_many ?c_Orders_many ?k_Orders_many ?a_Orders_held ?pg_Orders_held ?pt_Orders_held ?pq_Orders_held ?l_Orders_held ?c_Orders_held ?k_Orders_held ?a_Orders_upcoming ?pg_Orders_upcoming ?pt_Orders_upcoming ?pq_Orders_upcoming ?l_Orders_upcoming ?c_Orders_upcoming ?k_Orders_upcoming ?a_Orders_numbers ?i_Orders_numbers ?l_Orders_numbers ?c_Orders_numbers ?k_Orders_numbers ?a_Orders_oldest ?i_Orders_oldest ?l_Orders_oldest ?c_Orders_oldest ?k_Orders_oldest ?a_Orders_entered ?i_Orders_entered ?l_Orders_entered ?c_Orders_entered ?k_Orders_entered ?a_Orders_thing ?i_Orders_thing ?l_Orders_thing ?c_Orders_thing ?k_Orders_thing ?a_Orders_is_done ?i_Orders_is_done ?l_Orders_is_done ?c_Orders_is_done ?k_Orders_is_done ?a_Orders_done ?i_Orders_done ?l_Orders_done ?c_Orders_done ?k_Orders_done ?a_Orders_left ?i_Orders_left ?l_Orders_left ?c_Orders_left ?k_Orders_left ?a_Orders_dropped ?i_Orders_dropped ?l_Orders_dropped ?c_Orders_dropped ?k_Orders_dropped ?a_Orders_copy ?i_Orders_copy ?l_Orders_copy ?c_Orders_copy ?k_Orders_copy ?a_Orderswhere ?i_Orderswhere ?l_Orderswhere ?c_Orderswhere ?k_Orderswhere ?a_Lpot ?l_Lpot ?c_Lpot ?k_Lpot ?a_Ldraw ?l_Ldraw ?c_Ldraw ?k_Ldraw ?a_Lpick ?l_Lpick ?c_Lpick ?k_Lpick ?a_Lseen ?l_Lseen ?c_Lseen ?k_Lseen ?a_Ldrop ?l_Ldrop ?c_Ldrop ?k_Ldrop ?a_Lright ?l_Lright ?c_Lright ?k_Lright ?a_law ?l_law ?c_law ?k_law ?z_abs ?z_bool ?z_divmod ?z_enumerate ?z_int ?z_isinstance ?z_len ?z_list ?z_max ?z_range ?z_repr ?x__MOST_ROOMS
    (case aC_Orders => k_is)
    (case pg_Orders => k_is)
    (case hd_Orders => k_is)
    (case po_Orders => k_is)
    (case sa_Orders => k_is)
    (case mk_Orders => k_is)
    (case kc_Orders => k_is)
    (case n_Orders_many => k_is)
    (case n_Orders_first => k_is)
    (case n_Orders_things => k_is)
    (case n_Orders_dones => k_is)
    (case a_is_integer => k_is)
    (case l_is_integer => k_is)
    (case c_is_integer => k_is)
    (case k_is_integer => k_is)
    (case a_is_count => k_is)
    (case l_is_count => k_is)
    (case c_is_count => k_is)
    (case k_is_count => k_is)
    (case a_is_between => k_is)
    (case l_is_between => k_is)
    (case c_is_between => k_is)
    (case k_is_between => k_is)
    (case a_need_many => k_is)
    (case l_need_many => k_is)
    (case c_need_many => k_is)
    (case k_need_many => k_is)
    (case a_need_number => k_is)
    (case l_need_number => k_is)
    (case c_need_number => k_is)
    (case k_need_number => k_is)
    (case a_Orders_init => k_is)
    (case i_Orders_init => k_is)
    (case l_Orders_init => k_is)
    (case c_Orders_init => k_is)
    (case k_Orders_init => k_is)
    (case a_Orders_many => k_is)
    (case pg_Orders_many => k_is)
    (case pt_Orders_many => k_is)
    (case pq_Orders_many => k_is)
    (case l_Orders_many => k_is)
    (case c_Orders_many => k_is)
    (case k_Orders_many => k_is)
    (case a_Orders_held => k_is)
    (case pg_Orders_held => k_is)
    (case pt_Orders_held => k_is)
    (case pq_Orders_held => k_is)
    (case l_Orders_held => k_is)
    (case c_Orders_held => k_is)
    (case k_Orders_held => k_is)
    (case a_Orders_upcoming => k_is)
    (case pg_Orders_upcoming => k_is)
    (case pt_Orders_upcoming => k_is)
    (case pq_Orders_upcoming => k_is)
    (case l_Orders_upcoming => k_is)
    (case c_Orders_upcoming => k_is)
    (case k_Orders_upcoming => k_is)
    (case a_Orders_numbers => k_is)
    (case i_Orders_numbers => k_is)
    (case l_Orders_numbers => k_is)
    (case c_Orders_numbers => k_is)
    (case k_Orders_numbers => k_is)
    (case a_Orders_oldest => k_is)
    (case i_Orders_oldest => k_is)
    (case l_Orders_oldest => k_is)
    (case c_Orders_oldest => k_is)
    (case k_Orders_oldest => k_is)
    (case a_Orders_entered => k_is)
    (case i_Orders_entered => k_is)
    (case l_Orders_entered => k_is)
    (case c_Orders_entered => k_is)
    (case k_Orders_entered => k_is)
    (case a_Orders_thing => k_is)
    (case i_Orders_thing => k_is)
    (case l_Orders_thing => k_is)
    (case c_Orders_thing => k_is)
    (case k_Orders_thing => k_is)
    (case a_Orders_is_done => k_is)
    (case i_Orders_is_done => k_is)
    (case l_Orders_is_done => k_is)
    (case c_Orders_is_done => k_is)
    (case k_Orders_is_done => k_is)
    (case a_Orders_done => k_is)
    (case i_Orders_done => k_is)
    (case l_Orders_done => k_is)
    (case c_Orders_done => k_is)
    (case k_Orders_done => k_is)
    (case a_Orders_left => k_is)
    (case i_Orders_left => k_is)
    (case l_Orders_left => k_is)
    (case c_Orders_left => k_is)
    (case k_Orders_left => k_is)
    (case a_Orders_dropped => k_is)
    (case i_Orders_dropped => k_is)
    (case l_Orders_dropped => k_is)
    (case c_Orders_dropped => k_is)
    (case k_Orders_dropped => k_is)
    (case a_Orders_copy => k_is)
    (case i_Orders_copy => k_is)
    (case l_Orders_copy => k_is)
    (case c_Orders_copy => k_is)
    (case k_Orders_copy => k_is)
    (case a_Orderswhere => k_is)
    (case i_Orderswhere => k_is)
    (case l_Orderswhere => k_is)
    (case c_Orderswhere => k_is)
    (case k_Orderswhere => k_is)
    (case a_Lpot => k_is)
    (case l_Lpot => k_is)
    (case c_Lpot => k_is)
    (case k_Lpot => k_is)
    (case a_Ldraw => k_is)
    (case l_Ldraw => k_is)
    (case c_Ldraw => k_is)
    (case k_Ldraw => k_is)
    (case a_Lpick => k_is)
    (case l_Lpick => k_is)
    (case c_Lpick => k_is)
    (case k_Lpick => k_is)
    (case a_Lseen => k_is)
    (case l_Lseen => k_is)
    (case c_Lseen => k_is)
    (case k_Lseen => k_is)
    (case a_Ldrop => k_is)
    (case l_Ldrop => k_is)
    (case c_Ldrop => k_is)
    (case k_Ldrop => k_is)
    (case a_Lright => k_is)
    (case l_Lright => k_is)
    (case c_Lright => k_is)
    (case k_Lright => k_is)
    (case a_law => k_is)
    (case l_law => k_is)
    (case c_law => k_is)
    (case k_law => k_is)
    (case z_abs => k_is)
    (case z_bool => k_is)
    (case z_divmod => k_is)
    (case z_enumerate => k_is)
    (case z_int => k_is)
    (case z_isinstance => k_is)
    (case z_len => k_is)
    (case z_list => k_is)
    (case z_max => k_is)
    (case z_range => k_is)
    (case z_repr => k_is)
    (case x__MOST_ROOMS => k_is)

