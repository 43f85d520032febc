import PyProof.Rows.All
import Wide.All
import OpenK.AllK
import Wide.FinOn
import HandS.ForMost
import HandS.IsInst
import HandS.Wide
import HandS.Style
import HandS.Walk
import HandS.Zip
import HandS.Flow
import HandS.ForExc
import HandS.ExcInit
import HandS.Property
import HandS.TupSets
import HandS.Ends
import HandS.OwnEq
import HandS.MakeKw
import HandS.MakeKwOnly
import HandS.DictComp
import HandS.SortKw
import HandS.SortInts
import HandS.Conv
import KE.GoesEnumKw
import KE.GoesMore
import PyProof.InstEq
import HandS.Deep
import HandS.Remove
import HandS.DictEq
import HandS.Small
import HandS.ExcOwn
import HandS.RaiseMore
import KE.KDictZip
import KE.KTupSum
import PySem.Challenge.RW_orderlycore_k76_whole_queues_by_own_list
set_option Elab.async false
set_option linter.all false
set_option maxRecDepth 100000
set_option maxHeartbeats 4000000
namespace Hx
open PySem PySem.Spec PyProof.Rows L2
/-! ### own rules -/
section
variable {X : Cx} {CX : CXT} {k : Nat} {f : Addr} {fd : FuncData} {ps ks : List Str} {sp : Sp} {E : XK} {x : Str} {p pos : Pos} {kws : List Keyword} {tk : TA} {g : List Value → List Value → List Value} {gV : List V → List V → List V}
theorem pe_callKA (F : FnOk X.prog X.w X.K X.mg X.base CX k f fd ps sp) (hr : Room k X.A) (hg : Gl X x) (hm : X.mg x = some (.ref f)) (hk : PySem.W.keepIn X.K (.ref f) = true) (hb : KBinds X.K fd ps ks g gV) (hx : Passes CX X E)
    (hkw : PK X kws tk) (hall : (backToKw pos (keywordEach kws X.env)).all (·.1.isSome) = true := by rfl) (hks : (backToKw pos (keywordEach kws X.env)).filterMap (·.1) = ks := by rfl)
    (hdb : (x == ("__debug__" : Str)) = false := by decide)
    (hpl : ((backTo pos (starEach [] X.env)).any (·.1) || (backToKw pos (keywordEach kws X.env)).any (·.1.isNone)) = false := by rfl) :
    PE X (.Call (.Name x p) [] kws pos) (tCallK sp gV E tNil tk) := by
  refine ⟨fun pins s σ H Q I h => ?_⟩
  refine wpAny_Call_Name_kw (ld_glob I hg hm ?_ hdb)
  refine PySem.W.callWith_KW0 (h₀ := X.base) I.ok.mod.kin hk hall ?_ hpl
  refine thn (hkw.run pos pins s σ H _ I h) fun ws s2 ⟨zs, H2, I2, rz, q2⟩ => ⟨I2.kIn, ?_⟩
  rw [hks]
  exact run_fnk F hr hb hx I2 .nil rz q2
/-- all by keywords, in the parameters' own order -/
def kwG {α : Type} (us ws : List α) : List α := match us with | [] => ws | _ => []
theorem kw_binds {K : PySem.W.Frag} {x qual : Str} {st : Stmt} {f : Addr} {fd : FuncData} {ps : List Str} (F : Fun K x qual st f fd) (h0 : 0 < ps.length)
    (h : ∀ (kV doc pm : Value) (an : Option Addr) (cdv ct : Value) (us : List Value), us.length = ps.length → bindArgs (PySem.W.fnOf x qual (defArgs st) (defBody st) (defScope st) .none kV doc pm an cdv ct) ⟨[], ps.zip us⟩ = pure (ps.zip us)) : KBinds K fd ps ps kwG kwG := by
  obtain ⟨oc, od, kV, doc, pm, an, cdv, ct, osl, rfl, lk, hcd⟩ := F.ex
  refine ⟨fun s us ws _ hl => ?_, fun {vs us zs ws} r1 r2 => ?_⟩
  · cases us with
    | nil => exact .of_eq (h kV doc pm an cdv ct ws hl)
    | cons a t => exact absurd hl (by simp [kwG]; omega)
  · cases r1 with
    | nil => exact r2
    | cons a t => exact .nil
theorem pg_pair {i j : Nat} {x y : Str} {p1 p2 : Pos} {kk : Nat} (hc : X.calm = true) (hN : X.N.Nodup) (hi : X.N[i]? = some x) (hj : X.N[j]? = some y) (hx : Loc X.env.scope x) (hy : Loc X.env.scope y)
    (hf : X.fn x = true ∨ X.env.scope.names.lookup x = some .local := by first | exact .inl rfl | exact .inr rfl | assumption) (hf2 : X.fn y = true ∨ X.env.scope.names.lookup y = some .local := by first | exact .inl rfl | exact .inr rfl | assumption)
    (hn : (assignEach [Expr.Name x p1, .Name y p2] X.env).length = 2 := by rfl) (hst : (assignEach [Expr.Name x p1, .Name y p2] X.env).findIdx? (·.1) = none := by rfl)
    (hs : (assignEach [Expr.Name x p1, .Name y p2] X.env).map (·.2) = assign (.Name x p1) X.env :: (assignEach [Expr.Name y p2] X.env).map (·.2) := by rfl)
    (hs2 : (assignEach [Expr.Name y p2] X.env).map (·.2) = assign (.Name y p2) X.env :: (assignEach [] X.env).map (·.2) := by rfl) :
    PG X (.Tuple [.Name x p1, .Name y p2] kk pos) (gTup X.K 2 (gCons (gName i) (gCons (gName j) gNil))) :=
  pg_tup hc (pgs_cons (pg_name hN hi hx hf) (pgs_cons (pg_name hN hj hy hf2) pgs_nil hs2) hs) hn hst
theorem pe_gint {i : Int} (hg : Gl X x) (hm : ∃ t, X.mg x = some (.int i t)) (hd : (x == ("__debug__" : Str)) = false := by decide) : PE X (.Name x pos) (tC (.int i)) := by
  obtain ⟨t, hm⟩ := hm
  exact pe_glob hg hm ⟨_, rfl⟩ hd
end
theorem call_int1i {X : Cx} : CallR X (.type "int") (fun xs H Q => ∃ i, xs = [.int i] ∧ Q (.int i) H) := fun pins s σ H xs us Q I r h => call_int1 pins s σ H xs us Q I r (.inl h)
theorem call_int1b {X : Cx} : CallR X (.type "int") (fun xs H Q => ∃ k, xs = [.bl k] ∧ Q (.int (if k then 1 else 0)) H) := fun pins s σ H xs us Q I r h => call_int1 pins s σ H xs us Q I r (.inr h)
theorem call_len_list {X : Cx} : CallR X (.builtin "len") (fun xs H Q => ∃ p ys, xs = [.ref p] ∧ SqL X.K H p ys ∧ Q (.int ys.length) H) := fun pins s σ H xs us Q I r ⟨p, ys, e, h, q⟩ => call_len_seq pins s σ H xs us Q I r ⟨p, ys, e, .inl h, q⟩
/-- a goal at which the walker of readings stops -/
structure Stop (p : Prop) : Prop where
  h : p
theorem stop_eq {p : Prop} : Stop p = p := propext ⟨fun q => q.h, fun q => ⟨q⟩⟩
def tForS (wi : TI) (g : TG) (tb : TS) : TS := fun D σ H => wi σ H fun J H1 => Stop (∃ W : Nat → Nat → L2.St → Hp → Prop, (∃ m, W 0 m σ H1) ∧ ∀ i m σ H, W i m σ H →
  (J.stop i H ∧ D.nx σ H) ∨ (J.go i H ∧ ∃ N : L2.St → Hp → Prop, (∀ σ' H', N σ' H' → ∃ m', m' < m ∧ W (i + 1) m' σ' H') ∧ ∀ x H', J.yld i H x H' → g x σ H' fun σ2 H2 => tb { D with nx := N, ct := N, bk := D.nx } σ2 H2))
theorem tForS_eq (wi : TI) (g : TG) (tb : TS) : tForS wi g tb = tFor wi g tb := by
  funext D σ H
  unfold tForS tFor
  simp only [stop_eq]
theorem ps_forS {X : Cx} {tg iter : Expr} {body : List Stmt} {wi : TI} {g : TG} {tb : TS} {pos : Pos} (hp : PassesOwn (model X.prog X.w) X.A X.env X.xe) (hc : X.calm = true) (hi : PI X tg iter wi) (hg : PG X tg g) (hb : PSs X body tb)
    (hs : ∀ x, foldedSetIterable iter X.env x = pure x := by intro _; rfl) : PS X (.For tg iter body [] pos) (tForS wi g tb) := by
  rw [tForS_eq]
  exact ps_for hp hc hi hg hb hs
/-! ### heaps -/
theorem same_upd {H : Hp} {p : Addr} {o : HO} (h : H p = none) : Same H (upd H p o) := fun b u e => by rw [upd_ne (ne_of_none e h)]; exact e
theorem Same.upd {H H1 : Hp} {p : Addr} {o : HO} (s : Same H H1) (h : H1 p = none) : Same H (L2.upd H1 p o) := L2.Same.trans s (same_upd h)
theorem Same.free' {H H1 : Hp} (s : Same H H1) {p : Addr} (h : H1 p = none) : H p = none := L2.Same.free s h
/-- all but a is as it was -/
def But (a : Addr) (H H' : Hp) : Prop := ∀ b o, b ≠ a → H b = some o → H' b = some o
theorem But.refl {a : Addr} (H : Hp) : But a H H := fun _ _ _ h => h
theorem But.trans {a : Addr} {H H1 H2 : Hp} (x : But a H H1) (y : But a H1 H2) : But a H H2 := fun b o n h => y b o n (x b o n h)
theorem But.same {a : Addr} {H H1 : Hp} (x : Same H H1) : But a H H1 := fun b o _ h => x b o h
theorem But.set {a : Addr} {H : Hp} {o : HO} : But a H (upd H a o) := fun b u n h => by rw [upd_ne n]; exact h
theorem But.new {a : Addr} {H H1 : Hp} {p : Addr} {o : HO} (x : But a H H1) (h : H1 p = none) : But a H (upd H1 p o) := x.trans (But.same (same_upd h))
theorem size_le {n : Nat} (h : n ≤ 10000) : n ≤ sizeLine := by rw [sizeLine_eq]; omega
theorem size_lt {n : Nat} (h : n ≤ 10000) : n < sizeLine := by rw [sizeLine_eq]; omega
theorem iteD {c A B : Prop} [Decidable c] (h1 : c → A) (h2 : ¬ c → B) : if decide c = true then A else B := by
  by_cases h : c
  · rw [decide_eq_true h]; exact iteT (h1 h)
  · rw [decide_eq_false h]; exact iteF (h2 h)
theorem iteN {c A B : Prop} [Decidable c] (h1 : ¬ c → A) (h2 : c → B) : if (!decide c) = true then A else B := by
  by_cases h : c
  · rw [decide_eq_true h]; exact iteF (h2 h)
  · rw [decide_eq_false h]; exact iteT (h1 h)
theorem qbl {Q : VK} {b c : Bool} {H : Hp} (k : Q (.bl b) H) (e : c = b) : Q (.bl c) H := e ▸ k
theorem qint {Q : VK} {i j : Int} {H : Hp} (k : Q (.int i) H) (e : j = i) : Q (.int j) H := e ▸ k
theorem same_set {H H1 : Hp} {p : Addr} {o : HO} (s : Same H H1) (n : H p = none) : Same H (upd H1 p o) := fun b u e => by rw [upd_ne (ne_of_none e n)]; exact s b u e
theorem old_upd {H : Hp} {p a : Addr} {o u : HO} (n : H p = none) (h : H a = some u) : upd H p o a = some u := same_upd n _ _ h
theorem SqL.new {K : PySem.W.Frag} {H : Hp} {p a : Addr} {o : HO} {xs : List V} (n : H p = none) (h : SqL K H a xs) : SqL K (upd H p o) a xs := L2.Same.seq (same_upd n) h
theorem tyl_new {K : PySem.W.Frag} {H : Hp} {p a : Addr} {o : HO} {xs : List V} (h : H a = some (.lst xs)) (n : H p = none) : tyV K "list" (.ref a) (upd H p o) := Or.inl ⟨rfl, xs, SqL.of (old_upd n h)⟩
theorem tyl_of {K : PySem.W.Frag} {H : Hp} {a : Addr} {xs : List V} (h : H a = some (.lst xs)) : tyV K "list" (.ref a) H := Or.inl ⟨rfl, xs, SqL.of h⟩
theorem same_at {H H' : Hp} {a : Addr} {u : HO} (s : Same H H') (h : H a = some u) : H' a = some u := s _ _ h
theorem same_trans' {H H1 H2 : Hp} (b : Same H1 H2) (a : Same H H1) : Same H H2 := L2.Same.trans a b
/-! ### comprehensions that keep what stood -/
theorem lc_mapS {K : PySem.W.Frag} {a : Addr} {xs : List V} {g : TG} {te : TE} {vs : List Nat} {σ : L2.St} {H1 : Hp} {D : Addr} {Qd : Hp → Prop} (ys : List V) (ha : SqL K H1 a xs) (hD : H1 D = none) (hl : xs.length = ys.length) (hz : xs.length ≤ 10000)
    (hs : ∀ (i : Nat) (x y : V) (H' : Hp) (Q : VK), xs[i]? = some x → ys[i]? = some y → Same H1 H' → (∀ H'', Same H' H'' → Q y H'') → g x (wipe σ vs) H' fun σ2 H2 => wipe σ2 vs = wipe σ vs ∧ te σ2 H2 Q)
    (hd : ∀ H', Same H1 H' → H' D = some (.lst ys) → Qd H') :
    ∃ W : Nat → Nat → Hp → Prop, (∃ m, W 0 m (upd H1 D (.lst []))) ∧ ∀ i m H, W i m H →
      ((Itl K a).stop i H ∧ Qd H) ∨ ((Itl K a).go i H ∧ ∃ Nx : Hp → Prop, (∀ H', Nx H' → ∃ m', m' < m ∧ W (i + 1) m' H') ∧ ∀ x H', (Itl K a).yld i H x H' → g x (wipe σ vs) H' fun σ2 H2 => wipe σ2 vs = wipe σ vs ∧ tYes σ2 H2 fun b H3 =>
        if b = true then te σ2 H3 fun y H4 => ∃ acc, H4 D = some (.lst acc) ∧ acc.length < sizeLine ∧ Nx (upd H4 D (.lst (acc ++ [y]))) else Nx H3) := by
  refine lc_list (xs := xs) (fun i H => Same H1 H ∧ H D = some (.lst (ys.take i))) ⟨same_upd hD, upd_same⟩ (fun i H _ h => L2.Same.seq h.1 ha) (fun i x H hx h => ?_) (fun H h => hd H h.1 (by rw [h.2, List.take_of_length_le (by omega)]))
  have hi : i < ys.length := by have := (List.getElem?_eq_some_iff.mp hx).1; omega
  refine hs i x ys[i] H _ hx (List.getElem?_eq_getElem hi) h.1 (fun H'' s => ?_)
  refine ⟨ys.take i, s _ _ h.2, size_lt (by simp; omega), same_set (L2.Same.trans h.1 s) hD, ?_⟩
  rw [upd_same, List.take_add_one, List.getElem?_eq_getElem hi]; rfl
theorem lc_mapZ {K : PySem.W.Frag} {a b : Addr} {xs zs : List V} {g : TG} {te : TE} {vs : List Nat} {σ : L2.St} {H1 : Hp} {D : Addr} {Qd : Hp → Prop} (ys : List V) (ha : SqL K H1 a xs) (hb : SqL K H1 b zs) (hD : H1 D = none) (hl : xs.length = ys.length) (hl2 : xs.length = zs.length) (hz : xs.length ≤ 10000)
    (hs : ∀ (i : Nat) (x z y : V) (T : Addr) (H' : Hp) (Q : VK), xs[i]? = some x → zs[i]? = some z → ys[i]? = some y → Same H1 H' → H' T = none → (∀ H'', Same (upd H' T (.tup [x, z])) H'' → Q y H'') → g (.ref T) (wipe σ vs) (upd H' T (.tup [x, z])) fun σ2 H2 => wipe σ2 vs = wipe σ vs ∧ te σ2 H2 Q)
    (hd : ∀ H', Same H1 H' → H' D = some (.lst ys) → Qd H') :
    ∃ W : Nat → Nat → Hp → Prop, (∃ m, W 0 m (upd H1 D (.lst []))) ∧ ∀ i m H, W i m H →
      ((Itz K a b).stop i H ∧ Qd H) ∨ ((Itz K a b).go i H ∧ ∃ Nx : Hp → Prop, (∀ H', Nx H' → ∃ m', m' < m ∧ W (i + 1) m' H') ∧ ∀ x H', (Itz K a b).yld i H x H' → g x (wipe σ vs) H' fun σ2 H2 => wipe σ2 vs = wipe σ vs ∧ tYes σ2 H2 fun b H3 =>
        if b = true then te σ2 H3 fun y H4 => ∃ acc, H4 D = some (.lst acc) ∧ acc.length < sizeLine ∧ Nx (upd H4 D (.lst (acc ++ [y]))) else Nx H3) := by
  refine lc_it (walk_zip (xs := xs) (ys := zs) (n := xs.length) (by omega)) (fun i H => Same H1 H ∧ H D = some (.lst (ys.take i))) ⟨same_upd hD, upd_same⟩ (fun i H _ h => ⟨L2.Same.seq h.1 ha, L2.Same.seq h.1 hb⟩) (fun i x H H' hi h y => ?_) (fun H h => hd H h.1 (by rw [h.2, List.take_of_length_le (by omega)]))
  obtain ⟨T, x', z', rfl, hT, rfl, hx, hz'⟩ := y
  have hi' : i < ys.length := by omega
  refine hs i x' z' ys[i] T H _ hx hz' (List.getElem?_eq_getElem hi') h.1 hT (fun H'' s => ?_)
  refine ⟨ys.take i, s _ _ (old_upd hT h.2), size_lt (by simp; omega), same_set (L2.Same.trans (Same.upd h.1 hT) s) hD, ?_⟩
  rw [upd_same, List.take_add_one, List.getElem?_eq_getElem hi']; rfl
/-! ### two lists of the same ints -/
theorem dp_ints {K : PySem.W.Frag} {H : Hp} : ∀ ns : List Int, DpAll K H (ns.map V.int) (ns.map PyData.int)
  | [] => .nil
  | n :: r => .cons (.int n) (dp_ints r)
theorem sh_ints (ns : List Int) : SeqAt.shaped (.list (ns.map PyData.int)) = true := PySem.W.shaped_ints ns
theorem eqv_ints (ns : List Int) : PyData.eqv (.list (ns.map PyData.int)) (.list (ns.map PyData.int)) = true := SeqAt.eqv_refl _ (SeqAt.canLay_of_shaped (sh_ints ns))
theorem op_eqLI {X : Cx} (hu : X.A.units + 64 < cLine) : OpR X (compareOp .Eq) (fun x y H Q => ∃ (p q : Addr) (ns : List Int), x = .ref p ∧ y = .ref q ∧ SqL X.K H p (ns.map V.int) ∧ SqL X.K H q (ns.map V.int) ∧ Q (.bl true) H) := by
  intro pins s σ H x y v u Q I rx ry ⟨p, q, ns, e1, e2, h1, h2, k⟩
  refine op_eqD hu pins s σ H x y v u Q I rx ry ⟨.list (ns.map PyData.int), .list (ns.map PyData.int), ?_, ?_, ?_, ?_, ?_⟩
  · rw [e1]; exact .lst h1 (dp_ints ns)
  · rw [e2]; exact .lst h2 (dp_ints ns)
  · exact sh_ints ns
  · exact sh_ints ns
  · rw [eqv_ints]; exact k
theorem op_neLI {X : Cx} (hu : X.A.units + 64 < cLine) : OpR X (compareOp .NotEq) (fun x y H Q => ∃ (p q : Addr) (ns : List Int), x = .ref p ∧ y = .ref q ∧ SqL X.K H p (ns.map V.int) ∧ SqL X.K H q (ns.map V.int) ∧ Q (.bl false) H) := by
  intro pins s σ H x y v u Q I rx ry ⟨p, q, ns, e1, e2, h1, h2, k⟩
  refine op_neD hu pins s σ H x y v u Q I rx ry ⟨.list (ns.map PyData.int), .list (ns.map PyData.int), ?_, ?_, ?_, ?_, ?_⟩
  · rw [e1]; exact .lst h1 (dp_ints ns)
  · rw [e2]; exact .lst h2 (dp_ints ns)
  · exact sh_ints ns
  · exact sh_ints ns
  · rw [eqv_ints]; exact k
/-! ### the pot -/
structure Pot (H : Hp) (a : Addr) : Prop where
  ex : ∃ x y : Int, H a = some (.lst [.int x, .int y]) ∧ 0 ≤ x ∧ 0 ≤ y ∧ y < 4294967296
theorem Pot.same {H H' : Hp} {a : Addr} (s : Same H H') (h : Pot H a) : Pot H' a := by
  obtain ⟨x, y, e, r⟩ := h
  exact ⟨x, y, s _ _ e, r⟩
theorem Pot.new {H : Hp} {a p : Addr} {o : HO} (h : Pot H a) (n : H p = none) : Pot (upd H p o) a := h.same (same_upd n)
theorem Pot.ne {H : Hp} {a p : Addr} (h : Pot H a) (n : H p = none) : p ≠ a := by
  obtain ⟨x, y, e, r⟩ := h
  exact fun z => by rw [z, e] at n; cases n
theorem mulw {i j : Int} {a b : Nat} (ha : i.natAbs < 2 ^ a) (hb : j.natAbs < 2 ^ b) (h0 : 0 < a := by decide) (h1 : 0 < b := by decide) (h : a + b ≤ 1000000 := by decide) : CMulW i j := wide_mul ha hb h0 h1 h
theorem mulw64 {i j : Int} (ha : i.natAbs < 18446744073709551616) (hb : j.natAbs < 18446744073709551616) : CMulW i j := wide_mul (a := 64) (b := 64) ha hb (by decide) (by decide) (by decide)
theorem pick_at {xs : List V} {d : Int} (h0 : 0 ≤ d) (h1 : d < xs.length) : ∃ v, atI xs d = some v ∧ v ∈ xs := by
  have hd : d.toNat < xs.length := by omega
  exact ⟨xs[d.toNat], at_of (j := d.toNat) (by omega) (List.getElem?_eq_getElem hd), List.getElem_mem hd⟩
theorem take_fold {α β : Type} {f : β → α → β} {z : β} {l : List α} {i : Nat} {x : α} (h : l[i]? = some x) : (l.take (i + 1)).foldl f z = f ((l.take i).foldl f z) x := by
  rw [List.take_add_one, h, Option.toList_some, List.foldl_append]; rfl
theorem int_get {ns : List Int} {i : Nat} {x : V} (h : (ns.map V.int)[i]? = some x) : ∃ z, x = .int z ∧ ns[i]? = some z := by
  rw [List.getElem?_map] at h
  obtain ⟨z, hz, e⟩ := Option.map_eq_some_iff.mp h
  exact ⟨z, e.symm, hz⟩
/-- called with the pot and how many: a number below that, and the pot is still one -/
def spDraw : Sp := fun vs H Q _ => ∃ (a : Addr) (n : Int), vs = [.ref a, .int n] ∧ Pot H a ∧ 0 < n ∧ n < 1073741824 ∧
  ∀ (d : Int) (H' : Hp), 0 ≤ d → d < n → Pot H' a → But a H H' → Q (.int d) H'
end Hx

set_option Elab.async false
set_option linter.all false
set_option maxRecDepth 100000
set_option maxHeartbeats 4000000
namespace Hx
open PySem PySem.Spec PyProof.Rows L2
/-! ### own rules for objects and errors -/
def kwM {α : Type} (us ws : List α) : List α := match us with | [x] => x :: ws | _ => []
theorem kw_bindsM {K : PySem.W.Frag} {x qual : Str} {st : Stmt} {f : Addr} {fd : FuncData} {ps : List Str} (F : Fun K x qual st f fd) (h0 : 0 < ps.length)
    (h : ∀ (kV doc pm : Value) (an : Option Addr) (cdv ct : Value) (u : Value) (us : List Value), us.length = ps.tail.length → bindArgs (PySem.W.fnOf x qual (defArgs st) (defBody st) (defScope st) .none kV doc pm an cdv ct) ⟨[u], ps.tail.zip us⟩ = pure (ps.zip (u :: us))) : KBinds K fd ps ps.tail kwM kwM := by
  obtain ⟨oc, od, kV, doc, pm, an, cdv, ct, osl, rfl, lk, hcd⟩ := F.ex
  refine ⟨fun s us ws _ hl => ?_, fun {vs us zs ws} r1 r2 => ?_⟩
  · match us, hl with
    | [], hl => exact absurd hl (by simp [kwM]; omega)
    | [u], hl => exact .of_eq (h kV doc pm an cdv ct u ws (by simp [kwM] at hl ⊢; omega))
    | _ :: _ :: _, hl => exact absurd hl (by simp [kwM]; omega)
  · cases r1 with
    | nil => exact .nil
    | cons a t =>
      cases t with
      | nil => exact .cons a r2
      | cons b t => exact .nil
section
variable {X : Cx} {CX : CXT} {k : Nat} {f C : Addr} {fd : FuncData} {ps ks : List Str} {sp : Sp} {E : L2.St → XK} {E1 : XK} {x m : Str} {p pos apos : Pos} {e o : Expr} {es : List Expr} {ta : TE} {t tk : TA} {kws : List Keyword} {g : List Value → List Value → List Value} {gV : List V → List V → List V}
def tMethA (C : Addr) (m : Str) (sp : Sp) (E : L2.St → XK) (ta : TE) (t : TA) : TE := fun σ H Q => ta σ H fun x H1 => ∃ a dx fs, x = .ref a ∧ H1 a = some (.ins C dx fs) ∧ fs.lookup m = none ∧ t σ H1 fun vs H2 => sp (x :: vs) H2 Q (E σ)
/-- o.m(e, ..) that may raise, within a try -/
theorem pe_methA {E : L2.St → XK} {pl : Sem Bool} (he : PE X o ta) (c : Cls X.K C) (hm : Meth X.K C m f) (F : FnOk X.prog X.w X.K X.mg X.base CX k f fd ps sp) (hr : Room k X.A) (hb : Binds X.K fd ps []) (hx : ∀ σ, PassesAt CX X σ (E σ)) (ha : PA X (e :: es) t)
    (hst : starEach (e :: es) X.env = (false, eval e X.env) :: starEach es X.env := by rfl) (hpl : (backTo pos (starEach es X.env)).any (·.1) = false := by rfl)
    (ht : eval (.Call (.Attribute o m apos) (e :: es) [] pos) X.env = (do
      let ov ← eval o X.env
      standAt apos.atName
      let (f, first) ← holding [ov] (getMethod ov m pl)
      callWith pos f first (backTo pos (starEach (e :: es) X.env)) (backToKw pos (keywordEach [] X.env))) := by rfl) :
    PE X (.Call (.Attribute o m apos) (e :: es) [] pos) (tMethA C m sp E ta t) := by
  refine ⟨fun pins s σ H Q I h => ?_⟩
  refine PySem.W.methodCall_KW (pl := pl) (thn (he.run pins s σ H _ I h) fun u s1 ⟨x, H1, I1, rx, a, dx, fs, ex, ea, l, q⟩ => ?_) ht
  subst ex
  obtain rfl : u = Value.ref a := rx
  refine getmeth_ok I1 ea c hm l ?_
  refine PySem.W.callWith_K (first := [.ref a]) (h₀ := X.base) I.ok.mod.kin hm.kp (thn (ha.run pos pins s1 σ H1 _ I1 q) fun us s2 ⟨vs, H2, I2, r, q2⟩ => ⟨I2.kIn, ?_⟩) hst hpl
  exact run_fnS (us := .ref a :: us) (vs := .ref a :: vs) F hr hb (hx σ) I2 (.cons rfl r) q2
def tMethK (C : Addr) (m : Str) (sp : Sp) (gV : List V → List V → List V) (E : XK) (ta : TE) (tk : TA) : TE := fun σ H Q => ta σ H fun x H1 => ∃ a dx fs, x = .ref a ∧ H1 a = some (.ins C dx fs) ∧ fs.lookup m = none ∧ tk σ H1 fun zs H2 => sp (gV [x] zs) H2 Q E
/-- o.m(k=e, ..) -/
theorem pe_methKA {pl : Sem Bool} (he : PE X o ta) (c : Cls X.K C) (hm : Meth X.K C m f) (F : FnOk X.prog X.w X.K X.mg X.base CX k f fd ps sp) (hr : Room k X.A) (hb : KBinds X.K fd ps ks g gV) (hx : Passes CX X E1)
    (hkw : PK X kws tk) (hall : (backToKw pos (keywordEach kws X.env)).all (·.1.isSome) = true := by rfl) (hks : (backToKw pos (keywordEach kws X.env)).filterMap (·.1) = ks := by rfl)
    (hpl : ((backTo pos (starEach [] X.env)).any (·.1) || (backToKw pos (keywordEach kws X.env)).any (·.1.isNone)) = false := by rfl)
    (ht : eval (.Call (.Attribute o m apos) [] kws pos) X.env = (do
      let ov ← eval o X.env
      standAt apos.atName
      let (f, first) ← holding [ov] (getMethod ov m pl)
      callWith pos f first (backTo pos (starEach [] X.env)) (backToKw pos (keywordEach kws X.env))) := by rfl) :
    PE X (.Call (.Attribute o m apos) [] kws pos) (tMethK C m sp gV E1 ta tk) := by
  refine ⟨fun pins s σ H Q I h => ?_⟩
  refine PySem.W.methodCall_KW (pl := pl) (thn (he.run pins s σ H _ I h) fun u s1 ⟨x, H1, I1, rx, a, dx, fs, ex, ea, l, q⟩ => ?_) ht
  subst ex
  obtain rfl : u = Value.ref a := rx
  refine getmeth_ok I1 ea c hm l ?_
  refine PySem.W.callWith_KW0 (first := [.ref a]) (h₀ := X.base) I.ok.mod.kin hm.kp hall ?_ hpl
  refine thn (hkw.run pos pins s1 σ H1 _ I1 q) fun ws s2 ⟨zs, H2, I2, rz, q2⟩ => ⟨I2.kIn, ?_⟩
  rw [hks]
  exact run_fnk (us := [.ref a]) (vs := [.ref a]) F hr hb hx I2 (.cons rfl .nil) rz q2
theorem PI.or {tg iter : Expr} {w1 w2 : TI} (h1 : PI X tg iter w1) (h2 : PI X tg iter w2) : PI X tg iter (fun σ H R => w1 σ H R ∨ w2 σ H R) := ⟨fun pins s σ H R I h => h.elim (h1.run pins s σ H R I) (h2.run pins s σ H R I)⟩
end
theorem exm_self {K : PySem.W.Frag} {S : Addr} (h1 : PySem.W.subIn K (.ref S) (.type "BaseException") = some true) (h2 : PySem.W.isClsIn K S = true) (h3 : PySem.W.typeIn K (.ref S) = some (.type "type")) (h4 : PySem.W.subIn K (.ref S) (.ref S) = some true) :
    PySem.W.exmOne K (.ref S) (.ref S) = some true := by
  have e1 : (PySem.W.subIn K (.ref S) (.type "BaseException") == some true) = true := by rw [h1] <;> rfl
  have e2 : ((PySem.W.clsIn K S).isSome && PySem.W.typeIn K (.ref S) == some (.type "type")) = true := by
    have h2' : (PySem.W.clsIn K S).isSome = true := h2
    rw [h2', h3] <;> rfl
  show (if (PySem.W.subIn K (.ref S) (.type "BaseException") == some true) = true then (if ((PySem.W.clsIn K S).isSome && PySem.W.typeIn K (.ref S) == some (.type "type")) = true then PySem.W.subIn K (.ref S) (.ref S) else none) else none) = some true
  rw [if_pos e1, if_pos e2]
  exact h4
def tStop (t : TS) : TS := fun D σ H => t { D with nx := fun σ H => Stop (D.nx σ H) } σ H
theorem ps_stop {X : Cx} {st : Stmt} {t : TS} (h : PS X st t) : PS X st (tStop t) := by
  have e : tStop t = t := by
    funext D σ H
    unfold tStop
    simp only [stop_eq]
  rw [e]
  exact h
theorem lc_mapT {K : PySem.W.Frag} {a : Addr} {xs : List V} {g : TG} {te : TE} {vs : List Nat} {σ : L2.St} {H1 : Hp} {D : Addr} {Qd : Hp → Prop} (ys : List V) (ha : SqT K H1 a xs) (hD : H1 D = none) (hl : xs.length = ys.length) (hz : xs.length ≤ 10000)
    (hs : ∀ (i : Nat) (x y : V) (H' : Hp) (Q : VK), xs[i]? = some x → ys[i]? = some y → Same H1 H' → (∀ H'', Same H' H'' → Q y H'') → g x (wipe σ vs) H' fun σ2 H2 => wipe σ2 vs = wipe σ vs ∧ te σ2 H2 Q)
    (hd : ∀ H', Same H1 H' → H' D = some (.lst ys) → Qd H') :
    ∃ W : Nat → Nat → Hp → Prop, (∃ m, W 0 m (upd H1 D (.lst []))) ∧ ∀ i m H, W i m H →
      ((Itt K a).stop i H ∧ Qd H) ∨ ((Itt K a).go i H ∧ ∃ Nx : Hp → Prop, (∀ H', Nx H' → ∃ m', m' < m ∧ W (i + 1) m' H') ∧ ∀ x H', (Itt K a).yld i H x H' → g x (wipe σ vs) H' fun σ2 H2 => wipe σ2 vs = wipe σ vs ∧ tYes σ2 H2 fun b H3 =>
        if b = true then te σ2 H3 fun y H4 => ∃ acc, H4 D = some (.lst acc) ∧ acc.length < sizeLine ∧ Nx (upd H4 D (.lst (acc ++ [y]))) else Nx H3) := by
  refine lc_tup (xs := xs) (fun i H => Same H1 H ∧ H D = some (.lst (ys.take i))) ⟨same_upd hD, upd_same⟩ (fun i H _ h => ha.elim (fun r => r.elim (fun e => .inl (.inl (h.1 _ _ e))) (fun ⟨o, e⟩ => .inl (.inr ⟨o, h.1 _ _ e⟩))) .inr) (fun i x H hx h => ?_) (fun H h => hd H h.1 (by rw [h.2, List.take_of_length_le (by omega)]))
  have hi : i < ys.length := by have := (List.getElem?_eq_some_iff.mp hx).1; omega
  refine hs i x ys[i] H _ hx (List.getElem?_eq_getElem hi) h.1 (fun H'' s => ?_)
  refine ⟨ys.take i, s _ _ h.2, size_lt (by simp; omega), same_set (L2.Same.trans h.1 s) hD, ?_⟩
  rw [upd_same, List.take_add_one, List.getElem?_eq_getElem hi]; rfl
/-! ### two things of the same data -/
def FlatD (n : Nat) (d : PyData) : Prop := d.canLay0 = true ∧ d.depth ≤ n
theorem flat_all {n : Nat} : ∀ ds : List PyData, (∀ d ∈ ds, FlatD n d) → PyData.canLayAll0 ds = true ∧ PyData.depthAll ds ≤ n
  | [], _ => by simp [PyData.canLayAll0, PyData.depthAll]
  | d :: r, h => by
    have i := flat_all r fun x hx => h x (List.mem_cons_of_mem _ hx)
    have j := h d List.mem_cons_self
    unfold FlatD at j
    simp only [PyData.canLayAll0, PyData.depthAll, j.1, i.1, Bool.and_self, true_and]
    omega
theorem flat_list {n : Nat} {ds : List PyData} (h : ∀ d ∈ ds, FlatD n d) : FlatD (n + 1) (.list ds) := by
  have i := flat_all ds h
  exact ⟨by simp only [PyData.canLay0]; exact i.1, by simp only [PyData.depth]; omega⟩
theorem flat_tup {n : Nat} {ds : List PyData} (h : ∀ d ∈ ds, FlatD n d) : FlatD (n + 1) (.tuple ds) := by
  have i := flat_all ds h
  exact ⟨by simp only [PyData.canLay0]; exact i.1, by simp only [PyData.depth]; omega⟩
theorem flat_int (n : Nat) (i : Int) : FlatD n (.int i) := ⟨by simp [PyData.canLay0], by simp [PyData.depth]⟩
theorem flat_sh {n : Nat} {d : PyData} (h : FlatD n d) (hn : n ≤ 64 := by decide) : SeqAt.shaped d = true := by
  show (PyData.canLay0 d && decide (PyData.depth d ≤ 64)) = true
  rw [Bool.and_eq_true]
  exact ⟨h.1, decide_eq_true (Nat.le_trans h.2 hn)⟩
theorem op_eqS {X : Cx} (hu : X.A.units + 64 < cLine) : OpR X (compareOp .Eq) (fun x y H Q => ∃ d, Dp X.K H x d ∧ Dp X.K H y d ∧ SeqAt.shaped d = true ∧ Q (.bl true) H) := by
  intro pins s σ H x y v u Q I rx ry ⟨d, h1, h2, hs, k⟩
  refine op_eqD hu pins s σ H x y v u Q I rx ry ⟨d, d, h1, h2, hs, hs, ?_⟩
  rw [SeqAt.eqv_refl d (SeqAt.canLay_of_shaped hs)]; exact k
theorem op_neS {X : Cx} (hu : X.A.units + 64 < cLine) : OpR X (compareOp .NotEq) (fun x y H Q => ∃ d, Dp X.K H x d ∧ Dp X.K H y d ∧ SeqAt.shaped d = true ∧ Q (.bl false) H) := by
  intro pins s σ H x y v u Q I rx ry ⟨d, h1, h2, hs, k⟩
  refine op_neD hu pins s σ H x y v u Q I rx ry ⟨d, d, h1, h2, hs, hs, ?_⟩
  rw [SeqAt.eqv_refl d (SeqAt.canLay_of_shaped hs)]; exact k
/-- the only error's __init__: self.value = value -/
def spEI (C : Addr) : Sp := fun vs H Q _ => ∃ (a : Addr) (v : V), vs = [.ref a, v] ∧ H a = some (exo a C none) ∧ ∀ dx, H dx = none → dx ≠ a → Q .non (upd (upd H dx (exd dx [("value", v)])) a (exo a C (some dx)))
theorem ei_same {H : Hp} {a dx C : Addr} {fs : List (Str × V)} {o u : HO} (ha : H a = none) (hd : upd H a o dx = none) (ne : dx ≠ a) :
    Same H (upd (del (upd (upd (upd H a o) dx u) a (exo a C (some dx))) a) dx (.xd fs)) := fun b v e => by
  have n1 : b ≠ a := ne_of_none e ha
  have n2 : b ≠ dx := by
    intro z
    rw [z] at e
    rw [upd_ne ne] at hd
    rw [hd] at e
    cases e
  rw [upd_ne n2, del_ne n1, upd_ne n1, upd_ne n2, upd_ne n1]
  exact e
end Hx

set_option Elab.async false
set_option linter.all false
set_option maxRecDepth 100000
set_option maxHeartbeats 4000000
namespace Hx
open PySem PySem.Spec PyProof.Rows L2
/-! ### promises of defs under which no repr is under way -/
/-- as FnOk, for calls around which nothing is being written out -/
structure FnG (P : Program) (w : World) (K : PySem.W.Frag) (mg : Str → Option Value) (base : Heap) (k : Nat) (f : Addr) (fd : FuncData) (ps : List Str) (sp : Sp) : Prop where
  len : ∀ vs H Q E, sp vs H Q E → vs.length = ps.length
  run : ∀ (A : Around) (outer : List Env) (s : Shared) (H : Hp) (args : Args) (us : List Value) (vs : List V) (Q : VK) (E : XK), A.guards = some [] → Room k A → Env0 P w K mg base A outer s H → BindsTo s fd args (ps.zip us) → Vals vs us → sp vs H Q E →
    codeAny (model P w) A (.call (.ref f) args) (CR CX0 outer P w H s Q E) s
theorem FnG.mono {P : Program} {w : World} {K : PySem.W.Frag} {mg : Str → Option Value} {base : Heap} {j k : Nat} {f : Addr} {fd : FuncData} {ps : List Str} {sp : Sp} (F : FnG P w K mg base j f fd ps sp) (h : j ≤ k) : FnG P w K mg base k f fd ps sp :=
  ⟨F.len, fun A o s H a us vs Q E g r => F.run A o s H a us vs Q E g (r.mono h)⟩
theorem fnG {P : Program} {w : World} {K : PySem.W.Frag} {mg : Str → Option Value} {base : Heap} {x qual : Str} {st : Stmt} {f : Addr} {fd : FuncData} {N ps : List Str} {k : Nat} {sp : Sp} (F : Fun K x qual st f fd) (S : FnScope N ps (defScope st)) (len : ∀ vs H Q E, sp vs H Q E → vs.length = ps.length)
    (hbody : ∀ (cdv : Value) (A : Around) (outer : List Env) (s : Shared) (H : Hp) (vs : List V) (Q : VK) (E : XK), Room k (A.deeper (envOfC qual (defScope st) s.heap.objs.size f cdv)) → (A.deeper (envOfC qual (defScope st) s.heap.objs.size f cdv)).guards = some [] → sp vs H Q E →
      ∃ t, PSs (cxOf CX0 P w K mg base N qual (defScope st) f cdv A outer s H E).nox (defBody st) t ∧ t { nx := fun _ H' => Q .non H', rt := Q } (start N vs) H) : FnG P w K mg base (k + 1) f fd ps sp := by
  obtain ⟨oc, od, kV, doc, pm, an, cdv, ct, osl, rfl, lk, hcd⟩ := F.ex
  constructor
  · exact len
  intro A outer s H args us vs Q E hg hr e0 hb r hsp
  have old := fun b o e => (e0.bs b o e).1
  have KX := e0.mod.kin.keeps old
  have lim := e0.mod.nolimit.keeps old
  apply codeAny_call_function hr.depth (KX _ _ lk) rfl S.co S.gen rfl (PySem.W.codeRec_of KX hcd)
  apply hb
  apply wpAny_newFunctionEnv_cells S.kind
  · intro y hy
    exact (S.par y.1 (List.of_mem_zip hy).1).imp id fun q => ⟨q, PySem.W.cellsFrom_some _ _ _ (.inl q)⟩
  intro env he s1 x
  subst he
  refine ⟨lim.keeps x.toInCall.keep, codeAny_func ?_⟩
  obtain ⟨t, ht, hq⟩ := hbody cdv A outer s H vs Q E (hr.deeper _) hg hsp
  have I := inv_start (CX := CX0) (E := E) (base := base) S hr.hd e0 (len _ _ _ _ hsp) r x
  refine wpAny_mono (ht.nox.run [] s1 _ H _ I hq) (fun fl s' hs => ?_) fun e s' hs => hs
  match fl, hs with
  | .ret u, ⟨v, _, H', J, rv, q⟩ => exact ⟨v, H', J.os, J.bare, J.base, J.hok, rv, q⟩
  | .next, ⟨_, H', J, q⟩ => exact ⟨V.non, H', J.os, J.bare, J.base, J.hok, rfl, q⟩
  | .brk, ⟨_, _, _, q⟩ => exact q.elim
  | .cont, ⟨_, _, _, q⟩ => exact q.elim
section
variable {X : Cx} {k : Nat} {f : Addr} {fd : FuncData} {ps : List Str} {sp : Sp} {E : XK} {x : Str} {p pos : Pos} {e : Expr} {es : List Expr} {t : TA}
/-- f(e, ..) of such a def -/
theorem pe_callG (hu : X.A.guards = some []) (F : FnG X.prog X.w X.K X.mg X.base k f fd ps sp) (hr : Room k X.A) (hg : Gl X x) (hm : X.mg x = some (.ref f)) (hk : PySem.W.keepIn X.K (.ref f) = true) (hb : Binds X.K fd ps [])
    (ha : PA X (e :: es) t) (hdb : (x == ("__debug__" : Str)) = false := by decide) (he : starEach (e :: es) X.env = (false, eval e X.env) :: starEach es X.env := by rfl) (hpl : (backTo pos (starEach es X.env)).any (·.1) = false := by rfl) :
    PE X (.Call (.Name x p) (e :: es) [] pos) (tCall sp [] E t) := by
  constructor
  intro pins s σ H Q I h
  apply wpAny_Call_Name_kw (ld_glob I hg hm ?_ hdb)
  refine PySem.W.callWith_K (h₀ := X.base) I.ok.mod.kin hk (thn (ha.run pos pins s σ H _ I h) fun us s1 ⟨vs, H1, I1, r, q⟩ => ⟨I1.kIn, ?_⟩) he hpl
  have q : sp (vs ++ []) H1 Q E := q
  rw [List.append_nil] at q
  have hl : us.length = ps.length := by rw [← r.length]; exact F.len _ _ _ _ q
  have b := hb s1 us I1.kIn (by rw [List.append_nil]; exact hl)
  rw [List.append_nil] at b
  refine wpAny_call (codeAny_mono (F.run X.A X.stack s1 H1 ⟨us, []⟩ us vs Q E hu hr I1.env0 b r q) fun r s' hq => ?_)
  match r, hq with
  | .ok (.ret u), hq => exact I1.after hq
  | .error e, hq => exact False.elim hq
  | .ok .next, hq => exact False.elim hq
  | .ok .brk, hq => exact False.elim hq
  | .ok .cont, hq => exact False.elim hq
/-- repr of a list, a tuple, of things that show -/
theorem call_reprG (hg : X.A.guards = some []) (hr : Room 0 X.A) : CallR X (.builtin "repr") (fun xs H Q => ∃ (a : Addr) (d : PyData), xs = [.ref a] ∧ Dp X.K H (.ref a) d ∧ d.showable = true ∧ d.hasDict = false ∧ d.depth ≤ 64 ∧ d.shown.length ≤ sizeLine ∧ Q (.str d.shown) H) := by
  intro pins s σ H xs us Q I r h
  obtain ⟨a, d, rfl, hd, hs, hn, hp, hz, q⟩ := h
  rw [Vals.ref1 r]
  obtain ⟨as, hR⟩ := Dp.reads I d _ (.ref a) hd rfl
  have hu := hr.un
  exact repr_of_reads' hR hs (fun z => by rw [hn] at z; cases z) hg (by omega) (fun _ _ e => e) (fun h' u tk hk => ⟨.str _, H, I.kept hk, ⟨_, rfl⟩, q⟩) hz
end
theorem call_repr_bl {X : Cx} : CallR X (.builtin "repr") (fun xs H Q => ∃ b : Bool, xs = [.bl b] ∧ Q (.str (if b then "True" else "False")) H) := by
  intro pins s σ H xs us Q I r h
  obtain ⟨b, rfl, q⟩ := h
  cases r with
  | cons ru rn =>
    cases rn
    cases ru
    exact PySem.P.repr_of_bool ⟨.str _, H, I.tok _, ⟨_, rfl⟩, q⟩
/-! ### the head's call of such a law -/
theorem law_callG {P : Program} {w : World} {K : PySem.W.Frag} {mg mb : Str → Option Value} {k : Nat} {fa a : Addr} {fd : FuncData} {x : Str} {sp : Sp} {s : Shared} {vs : List Value} {ns : List Int}
    (KX : K.In s.heap) (hns : s.heap.Ns mainGlobals mg) (hb : s.heap.Ns builtinsNs mb) (hbb : ∀ x : Str, x ≠ "__name__" → mb x = bootBuiltins x) (hlim : s.heap.NoLimit) (hg : s.gens = #[])
    (ha : s.heap.get? a = some { cls := .type "list", data := .seq vs.toArray }) (hi : IntsAre vs ns) (hl : ns.length ≤ sizeLine) (hr : Room k callerA)
    (F : ∀ base : Heap, K.In base → base.Ns mainGlobals mg → FnG P w K mg base k fa fd [x] sp) (hbind : ∀ (s : Shared) (u : Value), BindsTo s fd ⟨[u], []⟩ [(x, u)])
    (hsp : ∀ H : Hp, Only H → SqL K H a (ns.map V.int) → sp [.ref a] H (fun v _ => v = .bl true) fun _ _ _ => False) :
    codeAny (model P w) callerA (.call (.ref fa) ⟨[.ref a], []⟩) (fun r s' => r = .ok (.ret (.bool true)) ∧ OldK s.heap s'.heap ∧ s'.os = s.os ∧ AllBare s'.gens) s := by
  let fz : HO := .frz { cls := .type "list", data := .seq vs.toArray } (.lst (ns.map V.int))
  let H : Hp := fun b => if b = a ∧ K.lookup a = none then some fz else none
  have rv := vals_ints hi
  have hH : ∀ {b : Addr} {u : HO}, H b = some u → b = a ∧ K.lookup a = none ∧ u = fz := fun {b u} z => by
    by_cases q : b = a ∧ K.lookup a = none
    · have z' := (if_pos q).symm.trans z
      exact ⟨q.1, q.2, (Option.some.inj z').symm⟩
    · have z' := (if_neg q).symm.trans z
      cases z'
  have hO : Only H := fun b => by
    by_cases q : b = a ∧ K.lookup a = none
    · exact .inr ⟨_, _, if_pos q⟩
    · exact .inl (if_neg q)
  have hok : HOk P w H s.heap := fun b u z => by
    obtain ⟨rfl, _, rfl⟩ := hH z
    exact ⟨ha, by rw [List.length_map]; exact hl, vs, _, rv, ha⟩
  have hS : SqL K H a (ns.map V.int) := by
    cases hk : K.lookup a with
    | some o =>
      have e := KX a o hk
      rw [ha] at e
      cases e
      exact .inr ⟨_, vs.toArray, _, hk, rfl, rfl, rfl, by rw [List.size_toArray, hi.length]; exact hl, by simpa using rv⟩
    | none => exact .inl (.inr ⟨_, if_pos ⟨rfl, hk⟩⟩)
  have hid : ∀ {b : Addr} {o : Obj}, s.heap.get? b = some o → (b = a → K.lookup a = none → False) → (hidT s.heap H).get? b = some o := fun {b o} e n => hidT_get e (by
    cases q : H b with
    | none => rfl
    | some u => exact (n (hH q).1 (hH q).2.1).elim)
  have nsK : ∀ {b : Addr} {m : Str → Option Value}, s.heap.Ns b m → (hidT s.heap H).Ns b m := fun {b m} ⟨o, es, ep, e, d, r⟩ => ⟨o, es, ep, hid e (fun z _ => by
    subst z
    rw [ha] at e
    cases e
    have d' : Data.seq vs.toArray _ = Data.dict es ep := d
    cases d'), d, r⟩
  have hKb : K.In (hidT s.heap H) := fun b o e => hid (KX b o e) fun z n => by
    subst z
    rw [n] at e
    cases e
  have e0 : Env0 P w K mg (hidT s.heap H) callerA [] s H := ⟨rfl, ⟨hKb, nsK hns, ⟨mb, nsK hb, hbb⟩, hlim.elim fun mc h => ⟨mc, nsK h.1, h.2⟩⟩, fun b o e => of_hidT e, Nat.le_of_eq (hidT_size _ _), trivial, fun b hb => absurd hb List.not_mem_nil, hok, .of_eq hg⟩
  refine codeAny_mono ((F _ hKb (nsK hns)).run callerA [] s H ⟨[.ref a], []⟩ [.ref a] [.ref a] _ _ rfl hr e0 (hbind s (.ref a)) (.cons rfl .nil) (hsp H hO hS)) fun r s' h => ?_
  match r, h with
  | .error e, h => exact h.elim
  | .ok .next, h => exact False.elim h
  | .ok .brk, h => exact False.elim h
  | .ok .cont, h => exact False.elim h
  | .ok (.ret u), ⟨v, H', os, bare, un, hok', r', q⟩ =>
    obtain rfl : v = .bl true := q
    obtain rfl : u = Value.bool true := r'
    refine ⟨rfl, OldK.of_keep fun b o e => ?_, os, bare⟩
    cases q : H b with
    | none => exact un.keep b o e q (fun z => List.not_mem_nil z) List.not_mem_nil
    | some u =>
      obtain ⟨rfl, _, rfl⟩ := hH q
      obtain ⟨e1, _⟩ := hok _ _ q
      obtain ⟨e2, _⟩ := hok' _ _ (un.frzs _ _ _ q)
      rw [e] at e1
      cases e1
      exact e2
theorem walk_ofG {l : PySem.W.OpenLaw} {n k : Nat} {q : Program} {loose : List Str} {XP : (Str → Option Value) → Heap → Prop} {YP : World → Heap → Prop} {d : DefRec} {K : Params → PySem.W.Frag} {sp : World → Sp} {x : Str}
    (hn : l.most = some n) (hn2 : n ≤ sizeLine) (hdf : d.params.defaults = []) (hr : Room k callerA)
    (hY : ∀ (w : World) (h : Heap), YP w h → (K w.params).In h)
    (F : ∀ (w : World) (mg : Str → Option Value) (fa : Addr) (h : Heap), (K w.params).In h → h.Ns mainGlobals mg → mg d.name = some (.ref fa) →
      ∃ fd : FuncData, (∀ (s : Shared) (u : Value), BindsTo s fd ⟨[u], []⟩ [(x, u)]) ∧ ∀ base : Heap, (K w.params).In base → base.Ns mainGlobals mg → FnG l.prog w (K w.params) mg base k fa fd [x] (sp w))
    (hsp : ∀ (w : World) (H : Hp) (a : Addr) (ns : List Int), ns.length ≤ n → Only H → SqL (K w.params) H a (ns.map V.int) → sp w [.ref a] H (fun v _ => v = .bl true) fun _ _ _ => False) :
    PySem.W.WalkO q loose XP YP l.row.toRowW d [] (fun f vs => PySem.call f vs) := by
  apply Att.attach_call hn hdf
  intro w s₀ s₁ mg mb fa o pm cd doc a vs ns G Y ho hd hcd hmg hobj hints hlen hg
  obtain ⟨fd, hb, hF⟩ := F w mg fa _ (hY w _ Y) G.T.g hmg
  exact law_callG (hY w _ Y) G.T.g G.T.b G.T.builtins G.T.nolimit hg hobj hints (Nat.le_trans hlen hn2) hr hF hb fun H hO hS => hsp w H a ns hlen hO hS
end Hx

set_option Elab.async false
set_option linter.all false
set_option maxRecDepth 100000
set_option maxHeartbeats 4000000
namespace Hx
open PySem PySem.Spec PyProof.Rows L2
/-- x == y by the class's own ==, whatever it answers -/
theorem op_eqOwn {X : Cx} {n : Nat} {C f : Addr} {fd : FuncData} {ps : List Str} {sp : Sp} (F : FnOk X.prog X.w X.K X.mg X.base CX0 n f fd ps sp) (hr : Room n X.A)
    (hs : PySem.W.findIn X.K (.ref C) "__eq__" = some (some (.ref f))) (hf : PySem.W.isFn X.K (.ref f) = true) (hb : Binds X.K fd ps []) :
    OpR X (compareOp .Eq) (fun x y H Q => ∃ a b dx dy fs gs, x = .ref a ∧ y = .ref b ∧ H a = some (.ins C dx fs) ∧ H b = some (.ins C dy gs) ∧ sp [.ref a, .ref b] H (fun v H' => ∃ c, v = .bl c ∧ Q (.bl c) H') (fun _ _ _ => False)) := by
  intro pins s σ H x y v u Q I rx ry h
  obtain ⟨a, b, dx, dy, fs, gs, rfl, rfl, ha, hb', hsp⟩ := h
  cases rx
  cases ry
  obtain ⟨mA, J, _⟩ := ins_get I.hok ha
  obtain ⟨mB, J', _⟩ := ins_get I.hok hb'
  obtain ⟨od, J, _⟩ := J.look
  obtain ⟨od', J', _⟩ := J'.look
  obtain ⟨m, hF⟩ := I.fr
  have hu := hr.un
  refine PySem.W.cmp_K (op := .Eq) (tb := .ref C) (by omega) hF I.ok.mod.kin J J'.type (by simp [PySem.W.notFirst]) hs hf ?_
  have hl := F.len _ _ _ _ hsp
  have r2 : Vals [V.ref a, V.ref b] [Value.ref a, Value.ref b] := .cons rfl (.cons rfl .nil)
  have hB : BindsTo s fd ⟨[.ref a, .ref b], []⟩ (ps.zip [.ref a, .ref b]) := by
    have := hb s [.ref a, .ref b] I.kIn (by simpa using hl)
    simpa using this
  refine wpAny_call (codeAny_mono (F.run X.A X.stack s H ⟨[.ref a, .ref b], []⟩ [.ref a, .ref b] [.ref a, .ref b] _ _ hr I.env0 hB r2 hsp) fun r s' hq => ?_)
  match r, hq with
  | .ok (.ret w), hq =>
    obtain ⟨z, H', I', rz, c, rfl, q⟩ := I.after hq
    cases rz
    exact ⟨.bl c, H', I', rfl, q⟩
  | .error e, hq => exact False.elim hq
  | .ok .next, hq => exact False.elim hq
  | .ok .brk, hq => exact False.elim hq
  | .ok .cont, hq => exact False.elim hq
/-! ### how long the text of whole numbers is -/
theorem text_le : ∀ (ts : List Str) (k : Nat) (acc : Str), (textFrom k acc ts).length ≤ acc.length + piled ts
  | [], _, acc => Nat.le_add_right _ _
  | t :: r, k, acc => by
    have ih := text_le r (k + 1) (acc ++ (if k > 0 then ", " else "" : String) ++ t)
    have e : (acc ++ (if k > 0 then ", " else "" : String) ++ t).length ≤ acc.length + 2 + t.length := by
      rw [strLen_append, strLen_append]
      split
      · exact Nat.le_refl _
      · exact Nat.add_le_add_right (Nat.add_le_add_left (Nat.zero_le 2) _) _
    show (textFrom (k + 1) _ r).length ≤ _
    rw [piled_cons]; omega
theorem piled_words : ∀ ns : List Int, (∀ n ∈ ns, 0 ≤ n ∧ n < 10 ^ 20) → piled (PyData.shownAll (ns.map PyData.int)) ≤ 22 * ns.length
  | [], _ => Nat.le_refl _
  | n :: r, h => by
    have i := piled_words r fun x hx => h x (List.mem_cons_of_mem _ hx)
    have j := toString_length_le (h n List.mem_cons_self).1 (by decide : 0 < 20) (h n List.mem_cons_self).2
    rw [List.map_cons, PyData.shownAll, piled_cons, PyData.shown, List.length_cons]
    omega
theorem words_dict : ∀ ns : List Int, PyData.hasDictAll (ns.map PyData.int) = false
  | [] => rfl
  | n :: r => by rw [List.map_cons, PyData.hasDictAll, PyData.hasDict, words_dict r] <;> rfl
theorem log_small {n : Int} (h : 0 ≤ n ∧ n < 10 ^ 20) : n.natAbs.log2 < 1920 := by
  by_cases z : n.natAbs = 0
  · rw [z]; decide
  · refine Nat.lt_trans (m := 67) ?_ (by decide)
    rw [Nat.log2_lt z]
    omega
theorem words_show : ∀ ns : List Int, (∀ n ∈ ns, 0 ≤ n ∧ n < 10 ^ 20) → PyData.showableAll (ns.map PyData.int) = true
  | [], _ => rfl
  | n :: r, h => by
    rw [List.map_cons, PyData.showableAll, PyData.showable, words_show r fun x hx => h x (List.mem_cons_of_mem _ hx), decide_eq_true (log_small (h n List.mem_cons_self))] <;> rfl
theorem words_depth : ∀ ns : List Int, PyData.depthAll (ns.map PyData.int) = 0
  | [] => by simp [PyData.depthAll]
  | n :: r => by simp [PyData.depthAll, PyData.depth, words_depth r]
/-- a list of words: all that repr asks -/
theorem shown_words {ns : List Int} (h : ∀ n ∈ ns, 0 ≤ n ∧ n < 10 ^ 20) (hl : ns.length ≤ 400) : (PyData.list (ns.map PyData.int)).showable = true ∧ (PyData.list (ns.map PyData.int)).hasDict = false ∧ (PyData.list (ns.map PyData.int)).depth ≤ 64 ∧ (PyData.list (ns.map PyData.int)).shown.length ≤ sizeLine := by
  refine ⟨by rw [PyData.showable]; exact words_show ns h, by rw [PyData.hasDict]; exact words_dict ns, by rw [PyData.depth, words_depth]; decide, ?_⟩
  rw [PyData.shown]
  have a := text_le (PyData.shownAll (ns.map PyData.int)) 0 "["
  have b := piled_words ns h
  show (textFrom 0 "[" _ ++ "]").length ≤ _
  rw [strLen_append, sizeLine_eq]
  have e : (("[" : String) : Str).length = 1 := rfl
  have e2 : (("]" : String) : Str).length = 1 := rfl
  rw [e] at a
  rw [e2]
  omega
/-! ### o.m(b=.., a=..) of two, in the other sequence -/
def kwR {α : Type} (us ws : List α) : List α := match us, ws with | [x], [b, a] => [x, a, b] | _, _ => []
theorem kw_bindsR {K : PySem.W.Frag} {x qual : Str} {st : Stmt} {f : Addr} {fd : FuncData} {ps : List Str} {p0 p1 p2 : Str} (F : Fun K x qual st f fd) (hp : ps = [p0, p1, p2])
    (h : ∀ (kV doc pm : Value) (an : Option Addr) (cdv ct : Value) (u a b : Value), bindArgs (PySem.W.fnOf x qual (defArgs st) (defBody st) (defScope st) .none kV doc pm an cdv ct) ⟨[u], [(p2, b), (p1, a)]⟩ = pure [(p0, u), (p1, a), (p2, b)]) : KBinds K fd ps [p2, p1] kwR kwR := by
  obtain ⟨oc, od, kV, doc, pm, an, cdv, ct, osl, rfl, lk, hcd⟩ := F.ex
  subst hp
  refine ⟨fun s us ws _ hl => ?_, fun {vs us zs ws} r1 r2 => ?_⟩
  · match us, ws, hl with
    | [u], [b, a], _ => exact .of_eq (h kV doc pm an cdv ct u a b)
    | [], _, hl => simp [kwR] at hl
    | [_], [], hl => simp [kwR] at hl
    | [_], [_], hl => simp [kwR] at hl
    | [_], _ :: _ :: _ :: _, hl => simp [kwR] at hl
    | _ :: _ :: _, _, hl => simp [kwR] at hl
  · cases r1 with
    | nil => exact .nil
    | cons a t =>
      cases t with
      | cons b t => exact .nil
      | nil =>
        cases r2 with
        | nil => exact .nil
        | cons b r2 =>
          cases r2 with
          | nil => exact .nil
          | cons c r2 =>
            cases r2 with
            | nil => exact .cons a (.cons c (.cons b .nil))
            | cons _ _ => exact .nil
/-! ### a list of ints beside the empty one -/
theorem eqv_nil (ns : List Int) : PyData.eqv (.list (ns.map PyData.int)) (.list []) = ns.isEmpty := by
  cases ns with
  | nil => exact eqv_ints []
  | cons a r => simp [PyData.eqv, PyData.eqvAll]
theorem op_neNil {X : Cx} (hu : X.A.units + 64 < cLine) : OpR X (compareOp .NotEq) (fun x y H Q => ∃ (p q : Addr) (ns : List Int), x = .ref p ∧ y = .ref q ∧ SqL X.K H p (ns.map V.int) ∧ SqL X.K H q [] ∧ Q (.bl (!ns.isEmpty)) H) := by
  intro pins s σ H x y v u Q I rx ry ⟨p, q, ns, e1, e2, h1, h2, k⟩
  refine op_neD hu pins s σ H x y v u Q I rx ry ⟨.list (ns.map PyData.int), .list [], ?_, ?_, ?_, ?_, ?_⟩
  · rw [e1]; exact .lst h1 (dp_ints ns)
  · rw [e2]; exact .lst h2 .nil
  · exact sh_ints ns
  · exact sh_ints []
  · rw [eqv_nil]; exact k
end Hx

set_option Elab.async false
set_option linter.all false
set_option maxRecDepth 100000
set_option maxHeartbeats 4000000
namespace Hx
open PySem PySem.Spec PyProof.Rows L2
/-! ### lists of pairs of ints; things of the same data in a grown heap -/
def rowD (r : Int × Int) : PyData := .tuple [.int r.1, .int r.2]
def rowsD (rs : List (Int × Int)) : PyData := .list (rs.map rowD)
theorem dp_rows {K : PySem.W.Frag} {H : Hp} : ∀ (ts : List Addr) (rs : List (Int × Int)), ts.length = rs.length → (∀ (i : Nat) (t : Addr) (r : Int × Int), ts[i]? = some t → rs[i]? = some r → H t = some (.tup [.int r.1, .int r.2])) → DpAll K H (ts.map V.ref) (rs.map rowD)
  | [], [], _, _ => .nil
  | t :: ts, r :: rs, hl, h => .cons (.tup (SqT.of (h 0 t r rfl rfl)) (.cons (.int _) (.cons (.int _) .nil))) (dp_rows ts rs (by simpa using hl) fun i t' r' h1 h2 => h (i + 1) t' r' (by simpa using h1) (by simpa using h2))
  | [], _ :: _, hl, _ => by simp at hl
  | _ :: _, [], hl, _ => by simp at hl
theorem rows_sh (rs : List (Int × Int)) : SeqAt.shaped (rowsD rs) = true := flat_sh (n := 2) (flat_list (n := 1) fun d hd => by
  obtain ⟨r, _, rfl⟩ := List.mem_map.mp hd
  exact flat_tup (n := 0) fun d hd => by
    simp at hd
    rcases hd with rfl | rfl <;> exact flat_int 0 _)
theorem sqt_same {K : PySem.W.Frag} {H H' : Hp} {a : Addr} {xs : List V} (s : Same H H') (h : SqT K H a xs) : SqT K H' a xs := h.elim (fun r => r.elim (fun e => .inl (.inl (s _ _ e))) (fun ⟨o, e⟩ => .inl (.inr ⟨o, s _ _ e⟩))) .inr
mutual
theorem dp_same {K : PySem.W.Frag} {H H' : Hp} (s : Same H H') : ∀ (d : PyData) (v : V), Dp K H v d → Dp K H' v d
  | .none, _, h => by cases h; exact .non
  | .bool b, _, h => by cases h; exact .bl b
  | .int i, _, h => by cases h; exact .int i
  | .str x, _, h => by cases h; exact .str x
  | .list ds, _, h => by cases h with | lst h1 h2 => exact .lst (L2.Same.seq s h1) (dpA_same s ds _ h2)
  | .tuple ds, _, h => by cases h with | tup h1 h2 => exact .tup (sqt_same s h1) (dpA_same s ds _ h2)
  | .dict _, _, h => by cases h
theorem dpA_same {K : PySem.W.Frag} {H H' : Hp} (s : Same H H') : ∀ (ds : List PyData) (vs : List V), DpAll K H vs ds → DpAll K H' vs ds
  | [], _, h => by cases h; exact .nil
  | d :: ds, _, h => by cases h with | cons h1 h2 => exact .cons (dp_same s d _ h1) (dpA_same s ds _ h2)
end
end Hx

set_option Elab.async false
set_option linter.all false
set_option maxRecDepth 100000
set_option maxHeartbeats 4000000
namespace Hx
open PySem PySem.Spec PyProof.Rows L2
/-! ### keywords in any sequence: n values by place, then those of the permutation -/
def kwP {α : Type} (n : Nat) (perm : List Nat) (us ws : List α) : List α := if us.length = n ∧ ws.length = perm.length then us ++ perm.filterMap (fun i => ws[i]?) else []
theorem vals_append {a b : List V} {x y : List Value} (h : Vals a x) (k : Vals b y) : Vals (a ++ b) (x ++ y) := by
  induction h with
  | nil => exact k
  | cons r t ih => exact .cons r ih
theorem vals_get {a : List V} {x : List Value} (h : Vals a x) : ∀ i : Nat, (∃ v u, a[i]? = some v ∧ x[i]? = some u ∧ RelV v u) ∨ (a[i]? = none ∧ x[i]? = none) := by
  induction h with
  | nil => exact fun i => .inr ⟨by simp, by simp⟩
  | cons r t ih =>
    intro i
    cases i with
    | zero => exact .inl ⟨_, _, rfl, rfl, r⟩
    | succ j => simpa using ih j
theorem vals_perm {a : List V} {x : List Value} (h : Vals a x) : ∀ perm : List Nat, Vals (perm.filterMap (fun i => a[i]?)) (perm.filterMap (fun i => x[i]?))
  | [] => .nil
  | i :: r => by
    have t := vals_perm h r
    rcases vals_get h i with ⟨v, u, e1, e2, q⟩ | ⟨e1, e2⟩
    · rw [List.filterMap_cons, List.filterMap_cons, e1, e2]; exact .cons q t
    · rw [List.filterMap_cons, List.filterMap_cons, e1, e2]; exact t
theorem vals_kwP {n : Nat} {perm : List Nat} {vs zs : List V} {us ws : List Value} (h : Vals vs us) (k : Vals zs ws) : Vals (kwP n perm vs zs) (kwP n perm us ws) := by
  unfold kwP
  rw [h.length, k.length]
  split
  · exact vals_append h (vals_perm k perm)
  · exact .nil
theorem kw_bindsP {K : PySem.W.Frag} {x qual : Str} {st : Stmt} {f : Addr} {fd : FuncData} {ps ks : List Str} {n : Nat} {perm : List Nat} (F : Fun K x qual st f fd) (h0 : 0 < ps.length)
    (h : ∀ (kV doc pm : Value) (an : Option Addr) (cdv ct : Value) (us ws : List Value), us.length = n → ws.length = perm.length → bindArgs (PySem.W.fnOf x qual (defArgs st) (defBody st) (defScope st) .none kV doc pm an cdv ct) ⟨us, ks.zip ws⟩ = pure (ps.zip (kwP n perm us ws))) : KBinds K fd ps ks (kwP n perm) (kwP n perm) := by
  obtain ⟨oc, od, kV, doc, pm, an, cdv, ct, osl, rfl, lk, hcd⟩ := F.ex
  refine ⟨fun s us ws _ hl => ?_, fun r1 r2 => vals_kwP r1 r2⟩
  by_cases q : us.length = n ∧ ws.length = perm.length
  · exact .of_eq (h kV doc pm an cdv ct us ws q.1 q.2)
  · unfold kwP at hl; rw [if_neg q] at hl; simp at hl; omega
theorem kw_bindsN {K : PySem.W.Frag} {x qual : Str} {st : Stmt} {f : Addr} {fd : FuncData} {ps ks : List Str} {n : Nat} {perm : List Nat} (F : Fun K x qual st f fd) (h0 : ks.length = perm.length)
    (h : ∀ (kV doc pm : Value) (an : Option Addr) (cdv ct : Value) (us ws : List Value), us.length = n → ws.length = perm.length → bindArgs (PySem.W.fnOf x qual (defArgs st) (defBody st) (defScope st) .none kV doc pm an cdv ct) ⟨us, ks.zip ws⟩ = pure (ps.zip (kwP n perm us ws))) : KBn K fd ps n ks (kwP n perm) (kwP n perm) := by
  obtain ⟨oc, od, kV, doc, pm, an, cdv, ct, osl, rfl, lk, hcd⟩ := F.ex
  exact ⟨fun s us ws _ l1 l2 => .of_eq (h kV doc pm an cdv ct us ws l1 (l2.trans h0)), fun r1 r2 => vals_kwP r1 r2⟩
/-! ### an own == beside a list -/
theorem op_eqOwnL {X : Cx} {n : Nat} {C f : Addr} {fd : FuncData} {ps : List Str} {sp : Sp} (F : FnOk X.prog X.w X.K X.mg X.base CX0 n f fd ps sp) (hr : Room n X.A)
    (hs : PySem.W.findIn X.K (.ref C) "__eq__" = some (some (.ref f))) (hf : PySem.W.isFn X.K (.ref f) = true) (hb : Binds X.K fd ps []) (hsl : PySem.W.subIn X.K (.type "list") (.ref C) = some false) :
    OpR X (compareOp .Eq) (fun x y H Q => ∃ a b dx fs xs, x = .ref a ∧ y = .ref b ∧ H a = some (.ins C dx fs) ∧ H b = some (.lst xs) ∧ sp [.ref a, .ref b] H (fun v H' => ∃ c, v = .bl c ∧ Q (.bl c) H') (fun _ _ _ => False)) := by
  intro pins s σ H x y v u Q I rx ry h
  obtain ⟨a, b, dx, fs, xs, rfl, rfl, ha, hb', hsp⟩ := h
  cases rx
  cases ry
  obtain ⟨mA, J, _⟩ := ins_get I.hok ha
  obtain ⟨od, J, _⟩ := J.look
  obtain ⟨_, _, nn, _, h1⟩ := (show ObjOk X.prog X.w H s.heap b (.lst xs) from I.hok b _ hb')
  obtain ⟨m, hF⟩ := I.fr
  have hu := hr.un
  refine PySem.W.cmp_K (op := .Eq) (tb := .type "list") (by omega) hF I.ok.mod.kin J (fun A Q E s k q => wpAny_typeOf_ref (k _ _ h1) q) (by simp [PySem.W.notFirst, hsl]) hs hf ?_
  have hl := F.len _ _ _ _ hsp
  have r2 : Vals [V.ref a, V.ref b] [Value.ref a, Value.ref b] := .cons rfl (.cons rfl .nil)
  have hB : BindsTo s fd ⟨[.ref a, .ref b], []⟩ (ps.zip [.ref a, .ref b]) := by
    have := hb s [.ref a, .ref b] I.kIn (by simpa using hl)
    simpa using this
  refine wpAny_call (codeAny_mono (F.run X.A X.stack s H ⟨[.ref a, .ref b], []⟩ [.ref a, .ref b] [.ref a, .ref b] _ _ hr I.env0 hB r2 hsp) fun r s' hq => ?_)
  match r, hq with
  | .ok (.ret w), hq =>
    obtain ⟨z, H', I', rz, c, rfl, q⟩ := I.after hq
    cases rz
    exact ⟨.bl c, H', I', rfl, q⟩
  | .error e, hq => exact False.elim hq
  | .ok .next, hq => exact False.elim hq
  | .ok .brk, hq => exact False.elim hq
  | .ok .cont, hq => exact False.elim hq
theorem kit_not {K : PySem.W.Frag} {C : Addr} (h1 : PySem.W.isClsIn K C = true) (h2 : PySem.W.typeIn K (.ref C) = some (.type "type")) (h3 : PySem.W.subIn K (.type "list") (.ref C) = some false) : PySem.W.kitOne K (.type "list") (.ref C) = some false := by
  have e : ((PySem.W.clsIn K C).isSome && PySem.W.typeIn K (.ref C) == some (.type "type")) = true := by
    have h1' : (PySem.W.clsIn K C).isSome = true := h1
    rw [h1', h2] <;> rfl
  show (if ((Value.type "list" == .ref C) = true) then some true else (if ((PySem.W.clsIn K C).isSome && PySem.W.typeIn K (.ref C) == some (.type "type")) = true then PySem.W.subIn K (.type "list") (.ref C) else none)) = some false
  rw [if_neg (by intro z; cases z), if_pos e]
  exact h3
/-! ### a comprehension that sifts -/
theorem lc_filt {α : Type} {K : PySem.W.Frag} {a : Addr} {g : TG} {tt : TT} {te : TE} {vs : List Nat} {σ : L2.St} {H1 : Hp} {D : Addr} {Qd : Hp → Prop} (zs : List α) (f : α → V) (t : α → Bool) (ha : SqL K H1 a (zs.map f)) (hD : H1 D = none) (hz : zs.length ≤ 10000)
    (hs : ∀ (i : Nat) (z : α) (H' : Hp) (Qn : Hp → Prop) (Qy : VK), zs[i]? = some z → Same H1 H' → (t z = false → ∀ H'', Same H' H'' → Qn H'') → (t z = true → ∀ H'', Same H' H'' → Qy (f z) H'') → g (f z) (wipe σ vs) H' fun σ2 H2 => wipe σ2 vs = wipe σ vs ∧ tt σ2 H2 fun b H3 => if b = true then te σ2 H3 Qy else Qn H3)
    (hd : ∀ H', Same H1 H' → H' D = some (.lst ((zs.filter t).map f)) → Qd H') :
    ∃ W : Nat → Nat → Hp → Prop, (∃ m, W 0 m (upd H1 D (.lst []))) ∧ ∀ i m H, W i m H →
      ((Itl K a).stop i H ∧ Qd H) ∨ ((Itl K a).go i H ∧ ∃ Nx : Hp → Prop, (∀ H', Nx H' → ∃ m', m' < m ∧ W (i + 1) m' H') ∧ ∀ x H', (Itl K a).yld i H x H' → g x (wipe σ vs) H' fun σ2 H2 => wipe σ2 vs = wipe σ vs ∧ tt σ2 H2 fun b H3 =>
        if b = true then te σ2 H3 fun y H4 => ∃ acc, H4 D = some (.lst acc) ∧ acc.length < sizeLine ∧ Nx (upd H4 D (.lst (acc ++ [y]))) else Nx H3) := by
  refine lc_list (xs := zs.map f) (fun i H => Same H1 H ∧ H D = some (.lst (((zs.take i).filter t).map f))) ⟨same_upd hD, upd_same⟩ (fun i H _ h => L2.Same.seq h.1 ha) (fun i x H hx h => ?_) (fun H h => hd H h.1 (by rw [h.2, List.length_map, List.take_length]))
  rw [List.getElem?_map] at hx
  obtain ⟨z, hz1, rfl⟩ := Option.map_eq_some_iff.mp hx
  have et : zs.take (i + 1) = zs.take i ++ [z] := by rw [List.take_add_one, hz1]; rfl
  refine hs i z H _ _ hz1 h.1 (fun tn H'' s => ?_) (fun ty H'' s => ?_)
  · refine ⟨L2.Same.trans h.1 s, ?_⟩
    rw [s _ _ h.2, et, List.filter_append, List.filter_cons_of_neg (by simp [tn]), List.filter_nil, List.append_nil]
  · refine ⟨((zs.take i).filter t).map f, s _ _ h.2, size_lt ?_, same_set (L2.Same.trans h.1 s) hD, ?_⟩
    · have := List.length_filter_le t (zs.take i)
      simp at this ⊢; omega
    · rw [upd_same, et, List.filter_append, List.filter_cons_of_pos ty, List.filter_nil, List.map_append]; rfl
/-! ### parts of a list -/
theorem cut_from (xs : List V) (k : Nat) : cutV xs (some (k : Int)) none = xs.drop k := by
  unfold cutV
  rw [HT.sIx_nat, HT.sIx_none, List.take_of_length_le (by rw [List.length_drop]; omega)]
  by_cases h : k ≤ xs.length
  · rw [Nat.min_eq_left h]
  · rw [Nat.min_eq_right (by omega), List.drop_length, List.drop_of_length_le (by omega)]
theorem cut_to (xs : List V) (k : Nat) : cutV xs none (some (k : Int)) = xs.take k := by
  unfold cutV
  rw [HT.sIx_nat, HT.sIx_none, List.drop_zero, Nat.sub_zero]
  by_cases h : k ≤ xs.length
  · rw [Nat.min_eq_left h]
  · rw [Nat.min_eq_right (by omega), List.take_length, List.take_of_length_le (by omega)]
/-! ### a list beside the empty one -/
theorem eqv_nilD (ds : List PyData) : PyData.eqv (.list ds) (.list []) = ds.isEmpty := by
  cases ds with
  | nil => rfl
  | cons a r => simp [PyData.eqv, PyData.eqvAll]
end Hx

set_option Elab.async false
set_option linter.all false
set_option maxRecDepth 100000
set_option maxHeartbeats 4000000
namespace Hx
open PySem PySem.Spec PyProof.Rows L2
/-! ### a list or a tuple -/
def Sq (K : PySem.W.Frag) (H : Hp) (a : Addr) (xs : List V) : Prop := H a = some (.lst xs) ∨ H a = some (.tup xs)
theorem Sq.same {K : PySem.W.Frag} {H H' : Hp} {a : Addr} {xs : List V} (s : Same H H') (h : Sq K H a xs) : Sq K H' a xs := h.imp (s _ _) (s _ _)
theorem Sq.or {K : PySem.W.Frag} {H : Hp} {a : Addr} {xs : List V} (h : Sq K H a xs) : SqL K H a xs ∨ SqT K H a xs := h.imp SqL.of SqT.of
def rIxB (K : PySem.W.Frag) : R2 := fun x y H Q => ∃ p xs i v, x = .ref p ∧ y = .int i ∧ Sq K H p xs ∧ atI xs i = some v ∧ Q v H
theorem ix_both {X : Cx} : IxR X (rIxB X.K) := by
  intro value slice pins s σ H x y v u Q I rx ry h hs
  obtain ⟨p, xs, i, z, rfl, rfl, hq, he, q⟩ := h
  rcases hq with hq | hq
  · exact ix_list value slice pins s σ H _ _ v u Q I rx ry ⟨p, xs, i, z, rfl, rfl, SqL.of hq, he, q⟩ hs
  · exact ix_tup value slice pins s σ H _ _ v u Q I rx ry ⟨p, xs, i, z, rfl, rfl, SqT.of hq, he, q⟩ hs
/-! ### texts of a few bools -/
theorem shown_bools (bs : List Bool) (hl : bs.length ≤ 400) : (PyData.list (bs.map PyData.bool)).showable = true ∧ (PyData.list (bs.map PyData.bool)).hasDict = false ∧ (PyData.list (bs.map PyData.bool)).depth ≤ 64 ∧ (PyData.list (bs.map PyData.bool)).shown.length ≤ sizeLine := by
  have h1 : ∀ bs : List Bool, PyData.showableAll (bs.map PyData.bool) = true := fun bs => by
    induction bs with
    | nil => rfl
    | cons b r ih => rw [List.map_cons, PyData.showableAll, PyData.showable, ih] <;> rfl
  have h2 : ∀ bs : List Bool, PyData.hasDictAll (bs.map PyData.bool) = false := fun bs => by
    induction bs with
    | nil => rfl
    | cons b r ih => rw [List.map_cons, PyData.hasDictAll, PyData.hasDict, ih] <;> rfl
  have h3 : ∀ bs : List Bool, PyData.depthAll (bs.map PyData.bool) = 0 := fun bs => by
    induction bs with
    | nil => simp [PyData.depthAll]
    | cons b r ih => simp [PyData.depthAll, PyData.depth, ih]
  have h4 : ∀ bs : List Bool, piled (PyData.shownAll (bs.map PyData.bool)) ≤ 22 * bs.length := fun bs => by
    induction bs with
    | nil => exact Nat.le_refl _
    | cons b r ih =>
      have e : (PyData.shown (.bool b)).length ≤ 5 := by cases b <;> decide
      rw [List.map_cons, PyData.shownAll, piled_cons, List.length_cons]
      omega
  refine ⟨by rw [PyData.showable]; exact h1 bs, by rw [PyData.hasDict]; exact h2 bs, by rw [PyData.depth, h3]; decide, ?_⟩
  rw [PyData.shown]
  have a := text_le (PyData.shownAll (bs.map PyData.bool)) 0 "["
  have b := h4 bs
  show (textFrom 0 "[" _ ++ "]").length ≤ _
  rw [strLen_append, sizeLine_eq]
  have e : (("[" : String) : Str).length = 1 := rfl
  have e2 : (("]" : String) : Str).length = 1 := rfl
  rw [e] at a
  rw [e2]
  omega
theorem dp_bools {K : PySem.W.Frag} {H : Hp} : ∀ bs : List Bool, DpAll K H (bs.map V.bl) (bs.map PyData.bool)
  | [] => .nil
  | b :: r => .cons (.bl b) (dp_bools r)
end Hx

set_option Elab.async false
set_option linter.all false
set_option maxRecDepth 100000
set_option maxHeartbeats 4000000
/-! HsSep: what is owned of a heap, as a list; a part of the heap that never changes; frames. -/
namespace L2
open PySem PySem.Spec PyProof.Rows
variable {K : PySem.W.Frag}
theorem DpAll.app' {M : Hp} : ∀ {vs us : List V} {ds es : List PyData}, DpAll K M vs ds → DpAll K M us es → DpAll K M (vs ++ us) (ds ++ es)
  | _, _, _, _, .nil, y => y
  | _, _, _, _, .cons x z, y => .cons x (DpAll.app' z y)
theorem DpAll.get {M : Hp} : ∀ {vs : List V} {ds : List PyData} {i : Nat} {v : V}, DpAll K M vs ds → vs[i]? = some v → ∃ d, ds[i]? = some d ∧ Dp K M v d
  | _, _, _, _, .nil, e => by simp at e
  | _, _, 0, _, .cons x _, e => by simp at e; subst e; exact ⟨_, rfl, x⟩
  | _, _, i + 1, v, .cons _ y, e => by
    obtain ⟨d, h1, h2⟩ := DpAll.get (i := i) (v := v) y (by simpa using e)
    exact ⟨d, by simpa using h1, h2⟩
theorem DpAll.get' {M : Hp} : ∀ {vs : List V} {ds : List PyData} {i : Nat} {v : V} {d : PyData}, DpAll K M vs ds → vs[i]? = some v → ds[i]? = some d → Dp K M v d := fun h e1 e2 => by
  obtain ⟨d', h1, h2⟩ := h.get e1
  rw [e2] at h1; cases h1; exact h2
theorem DpAll.len {M : Hp} : ∀ {vs : List V} {ds : List PyData}, DpAll K M vs ds → vs.length = ds.length
  | _, _, .nil => rfl
  | _, _, .cons _ y => by simp [DpAll.len y]
theorem DpAll.take {M : Hp} : ∀ {vs : List V} {ds : List PyData} (n : Nat), DpAll K M vs ds → DpAll K M (vs.take n) (ds.take n)
  | _, _, 0, _ => by simpa using DpAll.nil
  | _, _, _ + 1, .nil => by simpa using DpAll.nil
  | _, _, n + 1, .cons x y => by simpa using DpAll.cons x (DpAll.take n y)
theorem DpAll.drop {M : Hp} : ∀ {vs : List V} {ds : List PyData} (n : Nat), DpAll K M vs ds → DpAll K M (vs.drop n) (ds.drop n)
  | _, _, 0, h => by simpa using h
  | _, _, _ + 1, .nil => by simpa using DpAll.nil
  | _, _, n + 1, .cons _ y => by simpa using DpAll.drop n y
theorem DpAll.set {M : Hp} {v : V} {d : PyData} (x : Dp K M v d) : ∀ {vs : List V} {ds : List PyData} (n : Nat), DpAll K M vs ds → DpAll K M (vs.set n v) (ds.set n d)
  | _, _, _, .nil => by simpa using DpAll.nil
  | _, _, 0, .cons _ y => by simpa using DpAll.cons x y
  | _, _, n + 1, .cons z y => by simpa using DpAll.cons z (DpAll.set x n y)
theorem DpAll.erase {M : Hp} : ∀ {vs : List V} {ds : List PyData} (n : Nat), DpAll K M vs ds → DpAll K M (vs.eraseIdx n) (ds.eraseIdx n)
  | _, _, _, .nil => by simpa using DpAll.nil
  | _, _, 0, .cons _ y => by simpa using y
  | _, _, n + 1, .cons x y => by simpa using DpAll.cons x (DpAll.erase n y)
theorem DpAll.dropLast {M : Hp} {vs : List V} {ds : List PyData} (h : DpAll K M vs ds) : DpAll K M vs.dropLast ds.dropLast := by
  rw [List.dropLast_eq_take, List.dropLast_eq_take, h.len]; exact h.take _
theorem DpAll.rev {M : Hp} : ∀ {vs : List V} {ds : List PyData}, DpAll K M vs ds → DpAll K M vs.reverse ds.reverse
  | _, _, .nil => .nil
  | _, _, .cons x y => by rw [List.reverse_cons, List.reverse_cons]; exact DpAll.app' (DpAll.rev y) (.cons x .nil)
end L2
namespace Hx
open PySem PySem.Spec PyProof.Rows L2
/-- what stands at an owned address -/
inductive Ob where
  | raw (o : HO)
  | such (φ : HO → Prop)
  | L (ds : List PyData)
  | D (kds : List (Key × PyData))
/-- M: the part that never changes -/
def Hd (K : PySem.W.Frag) (M H : Hp) (a : Addr) : Ob → Prop
  | .raw o => H a = some o
  | .such φ => ∃ o, H a = some o ∧ φ o
  | .L ds => ∃ vs, H a = some (.lst vs) ∧ DpAll K M vs ds
  | .D kds => ∃ kvs : List (Key × V), H a = some (.dK kvs) ∧ kvs.map Prod.fst = kds.map Prod.fst ∧ DpAll K M (kvs.map Prod.snd) (kds.map Prod.snd)
/-- what is known of the part that never changes -/
inductive Pf where
  | tup (t : Addr) (vs : List V)
  | lst (t : Addr) (vs : List V)
  | dp (vs : List V) (ds : List PyData)
  | sq (t : Addr) (vs : List V)
def Pf.ok (K : PySem.W.Frag) (M : Hp) : Pf → Prop
  | .tup t vs => M t = some (.tup vs)
  | .lst t vs => M t = some (.lst vs)
  | .dp vs ds => DpAll K M vs ds
  | .sq t vs => SqT K M t vs
structure Own (K : PySem.W.Frag) (H : Hp) (L : List (Addr × Ob)) (P : List Pf) : Prop where
  ex : ∃ M : Hp, (L.map Prod.fst).Nodup ∧ (∀ p ∈ L, Hd K M H p.1 p.2 ∧ M p.1 = none) ∧ (∀ b u, M b = some u → H b = some u) ∧ ∀ q ∈ P, q.ok K M
theorem Pf.same {K : PySem.W.Frag} {M M' : Hp} (s : Same M M') : ∀ q : Pf, q.ok K M → q.ok K M'
  | .tup t vs, h => s _ _ h
  | .lst t vs, h => s _ _ h
  | .dp vs ds, h => dpA_same s _ _ h
  | .sq t vs, h => sqt_same s h
theorem Hd.some {K : PySem.W.Frag} {M H : Hp} {a : Addr} : ∀ {o : Ob}, Hd K M H a o → ∃ u, H a = Option.some u
  | .raw _, h => ⟨_, h⟩
  | .such _, ⟨_, h, _⟩ => ⟨_, h⟩
  | .L _, ⟨_, h, _⟩ => ⟨_, h⟩
  | .D _, ⟨_, h, _⟩ => ⟨_, h⟩
theorem Hd.same {K : PySem.W.Frag} {M M' H H' : Hp} {a : Addr} (s : Same M M') (e : H' a = H a) : ∀ {o : Ob}, Hd K M H a o → Hd K M' H' a o
  | .raw _, h => e.trans h
  | .such _, ⟨_, h, q⟩ => ⟨_, e.trans h, q⟩
  | .L _, ⟨_, h, q⟩ => ⟨_, e.trans h, dpA_same s _ _ q⟩
  | .D _, ⟨_, h, k, q⟩ => ⟨_, e.trans h, k, dpA_same s _ _ q⟩
variable {K : PySem.W.Frag} {H H1 M : Hp} {L L' R B : List (Addr × Ob)} {P P' : List Pf} {p a t : Addr} {o : HO} {ob : Ob} {vs us : List V} {ds es : List PyData}
theorem Own.new (h : Own K H L P) (f : H p = none) (e : upd H p o = H1) : Own K H1 ((p, .raw o) :: L) P := by
  subst e
  obtain ⟨M, nd, hl, hs, hp⟩ := h.ex
  have np : ∀ q ∈ L, q.1 ≠ p := fun q hq z => by obtain ⟨u, hu⟩ := (hl q hq).1.some; rw [z, f] at hu; cases hu
  have mp : M p = none := by
    cases e : M p with
    | none => rfl
    | some u => rw [hs _ _ e] at f; cases f
  refine ⟨M, ?_, fun q hq => ?_, fun b u hb => ?_, hp⟩
  · rw [List.map_cons, List.nodup_cons]
    exact ⟨fun z => by obtain ⟨q, hq, e⟩ := List.mem_map.mp z; exact np q hq e, nd⟩
  · rcases List.mem_cons.mp hq with rfl | hq
    · exact ⟨upd_same, mp⟩
    · exact ⟨(hl q hq).1.same (L2.Same.refl _) (upd_ne (np q hq)), (hl q hq).2⟩
  · rw [upd_ne (fun z => by rw [z, mp] at hb; cases hb)]; exact hs _ _ hb
/-- a new thing that never changes -/
theorem Own.newM (h : Own K H L P) (f : H p = none) (e : upd H p o = H1) {q : Pf} (hq : ∀ M : Hp, M p = some o → q.ok K M) : Own K H1 L (q :: P) := by
  subst e
  obtain ⟨M, nd, hl, hs, hp⟩ := h.ex
  have np : ∀ q ∈ L, q.1 ≠ p := fun q hq z => by obtain ⟨u, hu⟩ := (hl q hq).1.some; rw [z, f] at hu; cases hu
  have mp : M p = none := by
    cases e : M p with
    | none => rfl
    | some u => rw [hs _ _ e] at f; cases f
  have sm : Same M (upd M p o) := same_upd mp
  refine ⟨upd M p o, nd, fun q hq => ⟨(hl q hq).1.same sm (upd_ne (np q hq)), by rw [upd_ne (np q hq)]; exact (hl q hq).2⟩, fun b u hb => ?_, fun r hr => ?_⟩
  · by_cases z : b = p
    · subst z; rw [upd_same] at hb ⊢; exact hb
    · rw [upd_ne z] at hb ⊢; exact hs _ _ hb
  · rcases List.mem_cons.mp hr with rfl | hr
    · exact hq _ upd_same
    · exact r.same sm (hp r hr)
theorem Own.newT (h : Own K H L P) (f : H p = none) (e : upd H p (.tup vs) = H1) : Own K H1 L (.tup p vs :: P) := h.newM f e fun _ z => z
theorem Own.newP (h : Own K H L P) (f : H p = none) (e : upd H p (.lst vs) = H1) : Own K H1 L (.lst p vs :: P) := h.newM f e fun _ z => z
inductive At : List (Addr × Ob) → Addr → Ob → List (Addr × Ob) → Prop
  | head {a : Addr} {o o' : Ob} {t : List (Addr × Ob)} : At ((a, o) :: t) a o' ((a, o') :: t)
  | tail {a : Addr} {o' : Ob} {p : Addr × Ob} {t t' : List (Addr × Ob)} : At t a o' t' → At (p :: t) a o' (p :: t')
  | app {a : Addr} {o' : Ob} {A t t' : List (Addr × Ob)} : At t a o' t' → At (A ++ t) a o' (A ++ t')
theorem At.parts {L L' : List (Addr × Ob)} {a : Addr} {o' : Ob} (h : At L a o' L') : ∃ x o y, L = x ++ (a, o) :: y ∧ L' = x ++ (a, o') :: y := by
  induction h with
  | head => exact ⟨[], _, _, rfl, rfl⟩
  | tail _ ih => obtain ⟨x, o, y, e1, e2⟩ := ih; exact ⟨_ :: x, o, y, by rw [e1]; rfl, by rw [e2]; rfl⟩
  | @app _ _ A _ _ _ ih => obtain ⟨x, o, y, e1, e2⟩ := ih; exact ⟨A ++ x, o, y, by rw [e1, List.append_assoc], by rw [e2, List.append_assoc]⟩
theorem Own.setU (h : Own K H L P) (m : At L a ob L') (e : upd H a o = H1) (hd : ∀ M : Hp, (∀ q ∈ P, q.ok K M) → (∀ o0, (a, o0) ∈ L → Hd K M H a o0) → Hd K M (upd H a o) a ob) : Own K H1 L' P := by
  subst e
  obtain ⟨M, nd, hl, hs, hp⟩ := h.ex
  obtain ⟨x, o0, y, rfl, rfl⟩ := m.parts
  have ma : M a = none := (hl (a, o0) (by simp)).2
  have nd' := nd
  rw [List.map_append, List.map_cons, List.nodup_append, List.nodup_cons] at nd'
  have na : ∀ q, (q ∈ x ∨ q ∈ y) → q.1 ≠ a := fun q hq z => by
    rcases hq with hq | hq
    · exact nd'.2.2 q.1 (List.mem_map_of_mem hq) a List.mem_cons_self z
    · exact nd'.2.1.1 (List.mem_map.mpr ⟨q, hq, z⟩)
  refine ⟨M, by rw [List.map_append, List.map_cons] at nd ⊢; exact nd, fun q hq => ?_, fun b u hb => ?_, hp⟩
  · have old : (q ∈ x ∨ q ∈ y) → Hd K M (upd H a o) q.1 q.2 ∧ M q.1 = none := fun z => by
      have := hl q (by rcases z with z | z <;> simp [z])
      exact ⟨this.1.same (L2.Same.refl _) (upd_ne (na q z)), this.2⟩
    rcases List.mem_append.mp hq with hq | hq
    · exact old (.inl hq)
    · rcases List.mem_cons.mp hq with rfl | hq
      · exact ⟨hd M hp fun o1 m1 => (hl _ m1).1, ma⟩
      · exact old (.inr hq)
  · rw [upd_ne (fun z => by rw [z, ma] at hb; cases hb)]; exact hs _ _ hb
theorem Own.setO (h : Own K H L P) (m : At L a ob L') (e : upd H a o = H1) (hd : ∀ M : Hp, (∀ q ∈ P, q.ok K M) → Hd K M (upd H a o) a ob) : Own K H1 L' P := h.setU m e fun M q _ => hd M q
theorem Own.set (h : Own K H L P) (m : At L a (.raw o) L') (e : upd H a o = H1) : Own K H1 L' P := h.setO m e fun _ _ => upd_same
/-- the same, by a name that a walker sees -/
def updX (H : Hp) (a : Addr) (o : HO) : Hp := upd H a o
theorem upd_mk (H : Hp) (a : Addr) (o : HO) : upd H a o = updX H a o := rfl
theorem upd_mkO (h : Own K H L P) (a : Addr) (o : HO) : upd H a o = updX H a o := rfl
theorem Own.cset {G : Prop} (h : Own K H L P) (e : updX H a o = H1) (m : At L a (.raw o) L') (k : Own K H1 L' P → G) : G := k (h.set m e)
theorem Own.cnewT {G : Prop} (h : Own K H L P) (e : updX H p (.tup vs) = H1) (f : H p = none) (k : Own K H1 L (.tup p vs :: P) → G) : G := k (h.newT f e)
theorem Own.cnew {G : Prop} (h : Own K H L P) (e : updX H p o = H1) (f : H p = none) (k : Own K H1 ((p, .raw o) :: L) P → G) : G := k (h.new f e)
theorem Own.make {C dx x : Addr} (h : Own K H L P) (f1 : H x = none) (f2 : H dx = none) (f3 : dx ≠ x) (e : upd (updX H dx (.own x)) x (.ins C dx []) = H1) : Own K H1 ((x, .raw (.ins C dx [])) :: L) P := by
  have h1 := h.new f2 (o := .own x) rfl
  have h2 := h1.new (p := x) (o := .ins C dx []) (by rw [upd_ne (Ne.symm f3)]; exact f1) e
  obtain ⟨M, nd, hl, hs, hp⟩ := h2.ex
  refine ⟨M, ?_, fun p hp' => hl p ?_, hs, hp⟩
  · simp only [List.map_cons, List.nodup_cons, List.mem_cons, not_or] at nd ⊢
    exact ⟨nd.1.2, nd.2.2⟩
  · rcases List.mem_cons.mp hp' with rfl | z
    · exact List.mem_cons_self
    · exact List.mem_cons_of_mem _ (List.mem_cons_of_mem _ z)
theorem Own.cmake {G : Prop} {C dx x : Addr} (h : Own K H L P) (f1 : H x = none) (f2 : H dx = none) (f3 : dx ≠ x) (e : upd (updX H dx (.own x)) x (.ins C dx []) = H1) (k : Own K H1 ((x, .raw (.ins C dx [])) :: L) P → G) : G := k (h.make f1 f2 f3 e)
theorem Own.raw (h : Own K H L P) (m : (a, Ob.raw o) ∈ L) : H a = some o := by
  obtain ⟨M, nd, hl, hs, hp⟩ := h.ex
  exact (hl _ m).1
theorem Own.ptup (h : Own K H L P) (m : Pf.tup t vs ∈ P) : H t = some (.tup vs) := by
  obtain ⟨M, nd, hl, hs, hp⟩ := h.ex
  exact hs _ _ (hp _ m)
theorem Own.plst (h : Own K H L P) (m : Pf.lst t vs ∈ P) : H t = some (.lst vs) := by
  obtain ⟨M, nd, hl, hs, hp⟩ := h.ex
  exact hs _ _ (hp _ m)
theorem Own.pdp (h : Own K H L P) (m : Pf.dp vs ds ∈ P) : DpAll K H vs ds := by
  obtain ⟨M, nd, hl, hs, hp⟩ := h.ex
  exact dpA_same hs _ _ (hp _ m)
theorem Own.psq (h : Own K H L P) (m : Pf.sq t vs ∈ P) : SqT K H t vs := by
  obtain ⟨M, nd, hl, hs, hp⟩ := h.ex
  exact sqt_same hs (hp _ m)
theorem Own.lst (h : Own K H L P) (m : (a, Ob.L ds) ∈ L) : ∃ vs, H a = some (.lst vs) ∧ DpAll K H vs ds := by
  obtain ⟨M, nd, hl, hs, hp⟩ := h.ex
  obtain ⟨vs, e, q⟩ := (hl _ m).1
  exact ⟨vs, e, dpA_same hs _ _ q⟩
/-- entries by other words of the same heap -/
theorem Own.re (h : Own K H L P) (m : At L a ob L') {P' : List Pf} (f : ∀ M : Hp, (∀ q ∈ P, q.ok K M) → (∀ b u, M b = some u → H b = some u) → (∀ o0, (a, o0) ∈ L → Hd K M H a o0) → Hd K M H a ob ∧ ∀ q ∈ P', q.ok K M) : Own K H L' P' := by
  obtain ⟨M, nd, hl, hs, hp⟩ := h.ex
  obtain ⟨x, o0, y, rfl, rfl⟩ := m.parts
  obtain ⟨g1, g2⟩ := f M hp hs fun o0 m => (hl _ m).1
  refine ⟨M, by rw [List.map_append, List.map_cons] at nd ⊢; exact nd, fun q hq => ?_, hs, g2⟩
  rcases List.mem_append.mp hq with z | z
  · exact hl q (List.mem_append.mpr (.inl z))
  · rcases List.mem_cons.mp z with rfl | z
    · exact ⟨g1, (hl (a, o0) (by simp)).2⟩
    · exact hl q (List.mem_append.mpr (.inr (List.mem_cons_of_mem _ z)))
theorem Own.openL (h : Own K H L P) (m : (a, Ob.L ds) ∈ L) : ∃ vs, ∀ L', At L a (.raw (.lst vs)) L' → Own K H L' (.dp vs ds :: P) := by
  obtain ⟨M, nd, hl, hs, hp⟩ := h.ex
  obtain ⟨vs, e, q⟩ := (hl _ m).1
  refine ⟨vs, fun L' m' => ?_⟩
  obtain ⟨x, o0, y, rfl, rfl⟩ := m'.parts
  refine ⟨M, by rw [List.map_append, List.map_cons] at nd ⊢; exact nd, fun z hz => ?_, hs, fun z hz => ?_⟩
  · rcases List.mem_append.mp hz with w | w
    · exact hl z (List.mem_append.mpr (.inl w))
    · rcases List.mem_cons.mp w with rfl | w
      · exact ⟨e, (hl (a, o0) (by simp)).2⟩
      · exact hl z (List.mem_append.mpr (.inr (List.mem_cons_of_mem _ w)))
  · rcases List.mem_cons.mp hz with rfl | hz
    · exact q
    · exact hp z hz
theorem Own.openD {kds : List (Key × PyData)} (h : Own K H L P) (m : (a, Ob.D kds) ∈ L) : ∃ kvs : List (Key × V), kvs.map Prod.fst = kds.map Prod.fst ∧ ∀ L', At L a (.raw (.dK kvs)) L' → Own K H L' (.dp (kvs.map Prod.snd) (kds.map Prod.snd) :: P) := by
  obtain ⟨M, nd, hl, hs, hp⟩ := h.ex
  obtain ⟨vs, e, k, q⟩ := (hl _ m).1
  refine ⟨vs, k, fun L' m' => ?_⟩
  obtain ⟨x, o0, y, rfl, rfl⟩ := m'.parts
  refine ⟨M, by rw [List.map_append, List.map_cons] at nd ⊢; exact nd, fun z hz => ?_, hs, fun z hz => ?_⟩
  · rcases List.mem_append.mp hz with w | w
    · exact hl z (List.mem_append.mpr (.inl w))
    · rcases List.mem_cons.mp w with rfl | w
      · exact ⟨e, (hl (a, o0) (by simp)).2⟩
      · exact hl z (List.mem_append.mpr (.inr (List.mem_cons_of_mem _ w)))
  · rcases List.mem_cons.mp hz with rfl | hz
    · exact q
    · exact hp z hz
theorem Own.openS {φ : HO → Prop} (h : Own K H L P) (m : (a, Ob.such φ) ∈ L) : ∃ o, φ o ∧ ∀ L', At L a (.raw o) L' → Own K H L' P := by
  obtain ⟨M, nd, hl, hs, hp⟩ := h.ex
  obtain ⟨o, e, q⟩ := (hl _ m).1
  refine ⟨o, q, fun L' m' => ?_⟩
  obtain ⟨x, o0, y, rfl, rfl⟩ := m'.parts
  refine ⟨M, by rw [List.map_append, List.map_cons] at nd ⊢; exact nd, fun z hz => ?_, hs, hp⟩
  rcases List.mem_append.mp hz with w | w
  · exact hl z (List.mem_append.mpr (.inl w))
  · rcases List.mem_cons.mp w with rfl | w
    · exact ⟨e, (hl (a, o0) (by simp)).2⟩
    · exact hl z (List.mem_append.mpr (.inr (List.mem_cons_of_mem _ w)))
theorem Own.derive (h : Own K H L P) {q : Pf} (f : ∀ M : Hp, (∀ q ∈ P, q.ok K M) → q.ok K M) : Own K H L (q :: P) := by
  obtain ⟨M, nd, hl, hs, hp⟩ := h.ex
  exact ⟨M, nd, hl, hs, fun r hr => (List.mem_cons.mp hr).elim (fun e => e ▸ f M hp) (hp r)⟩
/-! ### what follows of what is known -/
def Dv (K : PySem.W.Frag) (P : List Pf) (vs : List V) (ds : List PyData) : Prop := ∀ M : Hp, (∀ q ∈ P, q.ok K M) → DpAll K M vs ds
def Dv1 (K : PySem.W.Frag) (P : List Pf) (v : V) (d : PyData) : Prop := ∀ M : Hp, (∀ q ∈ P, q.ok K M) → Dp K M v d
theorem Dv.nil : Dv K P [] [] := fun _ _ => .nil
theorem Dv.cons {v : V} {d : PyData} (x : Dv1 K P v d) (y : Dv K P vs ds) : Dv K P (v :: vs) (d :: ds) := fun M h => .cons (x M h) (y M h)
theorem Dv.of (m : Pf.dp vs ds ∈ P) : Dv K P vs ds := fun M h => h _ m
theorem Dv.app (x : Dv K P vs ds) (y : Dv K P us es) : Dv K P (vs ++ us) (ds ++ es) := fun M h => L2.DpAll.app' (x M h) (y M h)
theorem Dv1.non : Dv1 K P .non .none := fun _ _ => .non
theorem Dv1.bl (b : Bool) : Dv1 K P (.bl b) (.bool b) := fun _ _ => .bl b
theorem Dv1.int (i : Int) : Dv1 K P (.int i) (.int i) := fun _ _ => .int i
theorem Dv1.str (x : Str) : Dv1 K P (.str x) (.str x) := fun _ _ => .str x
theorem Dv1.tup (m : Pf.tup t vs ∈ P) (x : Dv K P vs ds) : Dv1 K P (.ref t) (.tuple ds) := fun M h => .tup (SqT.of (h _ m)) (x M h)
theorem Dv1.lst (m : Pf.lst t vs ∈ P) (x : Dv K P vs ds) : Dv1 K P (.ref t) (.list ds) := fun M h => .lst (SqL.of (h _ m)) (x M h)
theorem Dv1.of {v : V} {d : PyData} (m : Pf.dp [v] [d] ∈ P) : Dv1 K P v d := fun M h => by cases h _ m with | cons x _ => exact x
theorem DpAll_split {M : Hp} : ∀ {a b : List V} {d e : List PyData}, L2.DpAll K M (a ++ b) (d ++ e) → a.length = d.length → L2.DpAll K M a d ∧ L2.DpAll K M b e
  | [], _, [], _, h, _ => ⟨.nil, h⟩
  | [], _, _ :: _, _, _, l => by simp at l
  | _ :: _, _, [], _, _, l => by simp at l
  | x :: a, b, y :: d, e, h, l => by
    cases h with
    | cons p q =>
      obtain ⟨r1, r2⟩ := DpAll_split (a := a) (b := b) (d := d) (e := e) q (by simpa using l)
      exact ⟨.cons p r1, r2⟩
theorem Dv.fst {us : List V} (x : Dv K P (vs ++ us) (ds ++ es)) (l : vs.length = ds.length) : Dv K P vs ds := fun M h => (DpAll_split (x M h) l).1
theorem Dv.snd {us : List V} (x : Dv K P (vs ++ us) (ds ++ es)) (l : vs.length = ds.length) : Dv K P us es := fun M h => (DpAll_split (x M h) l).2
theorem Dv.hd {v : V} {d : PyData} (x : Dv K P (v :: vs) (d :: ds)) : Dv1 K P v d := fun M h => by cases x M h with | cons y _ => exact y
theorem Dv.tl {v : V} {d : PyData} (x : Dv K P (v :: vs) (d :: ds)) : Dv K P vs ds := fun M h => by cases x M h with | cons _ y => exact y
theorem Own.pd1 {v : V} {d : PyData} (h : Own K H L P) (m : Pf.dp [v] [d] ∈ P) : Dp K H v d := by
  cases h.pdp m with
  | cons y _ => exact y
theorem Own.dpL (h : Own K H L P) (m : (a, Ob.L ds) ∈ L) : Dp K H (.ref a) (.list ds) := by
  obtain ⟨vs, e, q⟩ := h.lst m
  exact .lst (SqL.of e) q
theorem Dv.take (n : Nat) (x : Dv K P vs ds) : Dv K P (vs.take n) (ds.take n) := fun M h => (x M h).take n
theorem Dv.drop (n : Nat) (x : Dv K P vs ds) : Dv K P (vs.drop n) (ds.drop n) := fun M h => (x M h).drop n
theorem Dv.set {v : V} {d : PyData} (n : Nat) (y : Dv1 K P v d) (x : Dv K P vs ds) : Dv K P (vs.set n v) (ds.set n d) := fun M h => (x M h).set (y M h) n
theorem Dv.erase (n : Nat) (x : Dv K P vs ds) : Dv K P (vs.eraseIdx n) (ds.eraseIdx n) := fun M h => (x M h).erase n
theorem Dv.dropLast (x : Dv K P vs ds) : Dv K P vs.dropLast ds.dropLast := fun M h => (x M h).dropLast
theorem Dv.rev (x : Dv K P vs ds) : Dv K P vs.reverse ds.reverse := fun M h => (x M h).rev
theorem Dv.get {i : Nat} {v : V} {d : PyData} (x : Dv K P vs ds) (e1 : vs[i]? = some v) (e2 : ds[i]? = some d) : Dv1 K P v d := fun M h => (x M h).get' e1 e2
theorem Dv.ints (ns : List Int) : Dv K P (ns.map V.int) (ns.map PyData.int) := fun _ _ => dp_ints ns
theorem Own.dv (h : Own K H L P) (x : Dv K P vs ds) : Own K H L (.dp vs ds :: P) := h.derive x
theorem Own.dv1 {v : V} {d : PyData} (h : Own K H L P) (x : Dv1 K P v d) : Own K H L (.dp [v] [d] :: P) := h.derive fun M z => .cons (x M z) .nil
theorem Own.all (h : Own K H L P) (x : Dv K P vs ds) : DpAll K H vs ds := (h.dv x).pdp List.mem_cons_self
theorem Own.one {v : V} {d : PyData} (h : Own K H L P) (x : Dv1 K P v d) : Dp K H v d := by
  cases (h.dv1 x).pdp List.mem_cons_self with
  | cons y _ => exact y
theorem Own.setL (h : Own K H L P) (m : At L a (.L ds) L') (e : upd H a (.lst vs) = H1) (x : Dv K P vs ds) : Own K H1 L' P := h.setO m e fun M q => ⟨vs, upd_same, x M q⟩
theorem Own.setS {φ : HO → Prop} (h : Own K H L P) (m : At L a (.such φ) L') (e : upd H a o = H1) (x : φ o) : Own K H1 L' P := h.setO m e fun _ _ => ⟨o, upd_same, x⟩
theorem Own.setD {kvs : List (Key × V)} {kds : List (Key × PyData)} (h : Own K H L P) (m : At L a (.D kds) L') (e : upd H a (.dK kvs) = H1) (k : kvs.map Prod.fst = kds.map Prod.fst) (x : Dv K P (kvs.map Prod.snd) (kds.map Prod.snd)) : Own K H1 L' P := h.setO m e fun M q => ⟨kvs, upd_same, k, x M q⟩
theorem Own.closeL (h : Own K H L P) (m : (a, Ob.raw (.lst vs)) ∈ L) (x : Dv K P vs ds) (m' : At L a (.L ds) L') : Own K H L' P := h.re m' fun M q hs hd => ⟨⟨vs, hd _ m, x M q⟩, q⟩
theorem Own.closeS {φ : HO → Prop} (h : Own K H L P) (m : (a, Ob.raw o) ∈ L) (x : φ o) (m' : At L a (.such φ) L') : Own K H L' P := h.re m' fun M q hs hd => ⟨⟨o, hd _ m, x⟩, q⟩
theorem Own.closeD {kvs : List (Key × V)} {kds : List (Key × PyData)} (h : Own K H L P) (m : (a, Ob.raw (.dK kvs)) ∈ L) (k : kvs.map Prod.fst = kds.map Prod.fst) (x : Dv K P (kvs.map Prod.snd) (kds.map Prod.snd)) (m' : At L a (.D kds) L') : Own K H L' P := h.re m' fun M q hs hd => ⟨⟨kvs, hd _ m, k, x M q⟩, q⟩
/-! ### blocks out of a list, and less -/
def Pk (L B R : List (Addr × Ob)) : Prop := L.Perm (B ++ R)
theorem Pk.one {p : Addr × Ob} : Pk (p :: R) [p] R := List.Perm.refl _
theorem Pk.here : Pk (B ++ R) B R := List.Perm.refl _
theorem Pk.all : Pk B B [] := by unfold Pk; rw [List.append_nil]
theorem Pk.skip1 {p : Addr × Ob} (h : Pk L B R) : Pk (p :: L) B (p :: R) := (h.cons p).trans List.perm_middle.symm
theorem Pk.skipB {A : List (Addr × Ob)} (h : Pk L B R) : Pk (A ++ L) B (A ++ R) := by
  unfold Pk at h ⊢
  refine (List.Perm.append_left A h).trans ?_
  rw [← List.append_assoc, ← List.append_assoc]
  exact List.Perm.append_right R List.perm_append_comm
/-- what stands by one word stands by another -/
def Ft (K : PySem.W.Frag) (P : List Pf) (o' o : Ob) : Prop := ∀ (M H : Hp) (a : Addr), (∀ q ∈ P, q.ok K M) → Hd K M H a o' → Hd K M H a o
theorem Ft.refl {o : Ob} : Ft K P o o := fun _ _ _ _ h => h
theorem Ft.eq {o' o : Ob} (e : o' = o) : Ft K P o' o := e ▸ Ft.refl
theorem Ft.lst {us vs : List V} (e : us = vs) : Ft K P (.raw (.lst us)) (.raw (.lst vs)) := e ▸ Ft.refl
theorem Ft.ins {C dx : Addr} {us vs : List (Str × V)} (e : us = vs) : Ft K P (.raw (.ins C dx us)) (.raw (.ins C dx vs)) := e ▸ Ft.refl
theorem Ft.dK {us vs : List (Key × V)} (e : us = vs) : Ft K P (.raw (.dK us)) (.raw (.dK vs)) := e ▸ Ft.refl
theorem Ft.toL (x : Dv K P vs ds) : Ft K P (.raw (.lst vs)) (.L ds) := fun M _ _ q h => ⟨vs, h, x M q⟩
theorem Ft.toS {φ : HO → Prop} {o : HO} (x : φ o) : Ft K P (.raw o) (.such φ) := fun _ _ _ _ h => ⟨o, h, x⟩
theorem Ft.toD {kvs : List (Key × V)} {kds : List (Key × PyData)} (k : kvs.map Prod.fst = kds.map Prod.fst) (x : Dv K P (kvs.map Prod.snd) (kds.map Prod.snd)) : Ft K P (.raw (.dK kvs)) (.D kds) := fun M _ _ q h => ⟨kvs, h, k, x M q⟩
theorem Ft.Le {ds es : List PyData} (e : ds = es) : Ft K P (.L ds) (.L es) := e ▸ Ft.refl
theorem Ft.De {ds es : List (Key × PyData)} (e : ds = es) : Ft K P (.D ds) (.D es) := e ▸ Ft.refl
theorem Ft.S {φ ψ : HO → Prop} (e : ∀ o, φ o → ψ o) : Ft K P (.such φ) (.such ψ) := fun _ _ _ _ ⟨o, h, x⟩ => ⟨o, h, e o x⟩
inductive Al (K : PySem.W.Frag) (P : List Pf) : List (Addr × Ob) → List (Addr × Ob) → Prop
  | nil : Al K P [] []
  | cons {a : Addr} {o' o : Ob} {L' L : List (Addr × Ob)} : Ft K P o' o → Al K P L' L → Al K P ((a, o') :: L') ((a, o) :: L)
theorem Al.refl : ∀ L : List (Addr × Ob), Al K P L L
  | [] => .nil
  | (_, _) :: t => .cons Ft.refl (Al.refl t)
theorem Al.app {A A' B B' : List (Addr × Ob)} (x : Al K P A A') (y : Al K P B B') : Al K P (A ++ B) (A' ++ B') := by
  induction x with
  | nil => exact y
  | cons f _ ih => exact .cons f ih
theorem Al.fst {A A' : List (Addr × Ob)} (x : Al K P A A') : A.map Prod.fst = A'.map Prod.fst := by
  induction x with
  | nil => rfl
  | cons f _ ih => rw [List.map_cons, List.map_cons, ih]
theorem Al.hd {A A' : List (Addr × Ob)} (x : Al K P A A') {M H : Hp} (q : ∀ q ∈ P, q.ok K M) (h : ∀ p ∈ A, Hd K M H p.1 p.2 ∧ M p.1 = none) : ∀ p ∈ A', Hd K M H p.1 p.2 ∧ M p.1 = none := by
  induction x with
  | nil => exact fun _ z => nomatch z
  | cons f _ ih =>
    intro p hp
    rcases List.mem_cons.mp hp with rfl | hp
    · have := h _ List.mem_cons_self
      exact ⟨f _ _ _ q this.1, this.2⟩
    · exact ih (fun p hp => h p (List.mem_cons_of_mem _ hp)) p hp
/-- L' out of L -/
def Sb (K : PySem.W.Frag) (P : List Pf) (L' L : List (Addr × Ob)) : Prop := ∃ L1 R, L.Perm (L1 ++ R) ∧ Al K P L1 L'
theorem Sb.refl (L : List (Addr × Ob)) : Sb K P L L := ⟨L, [], by rw [List.append_nil], Al.refl L⟩
theorem Sb.nil : Sb K P [] L := ⟨[], L, List.Perm.refl _, .nil⟩
theorem Sb.app (x : Pk L B R) (y : Sb K P L' R) : Sb K P (B ++ L') L := by
  obtain ⟨L1, z, e, al⟩ := y
  exact ⟨B ++ L1, z, x.trans (by rw [List.append_assoc]; exact List.Perm.append_left B e), Al.app (Al.refl B) al⟩
theorem Sb.cons {o' : Ob} (x : Pk L [(a, o')] R) (f : Ft K P o' ob) (y : Sb K P L' R) : Sb K P ((a, ob) :: L') L := by
  obtain ⟨L1, z, e, al⟩ := y
  exact ⟨(a, o') :: L1, z, x.trans (List.Perm.append_left [(a, o')] e), .cons f al⟩
theorem Sb.skip {p : Addr × Ob} (y : Sb K P L' L) : Sb K P L' (p :: L) := by
  obtain ⟨L1, z, e, al⟩ := y
  exact ⟨L1, p :: z, (e.cons p).trans List.perm_middle.symm, al⟩
theorem Sb.skipB {A : List (Addr × Ob)} (y : Sb K P L' L) : Sb K P L' (A ++ L) := by
  obtain ⟨L1, z, e, al⟩ := y
  refine ⟨L1, A ++ z, (List.Perm.append_left A e).trans ?_, al⟩
  rw [← List.append_assoc, ← List.append_assoc]
  exact List.Perm.append_right z List.perm_append_comm
def Ps (P' P : List Pf) : Prop := ∀ r ∈ P', r ∈ P
theorem Ps.refl : Ps P P := fun _ h => h
theorem Ps.nil : Ps [] P := fun _ h => nomatch h
theorem Ps.skip {q : Pf} (h : Ps P' P) : Ps P' (q :: P) := fun r hr => List.mem_cons_of_mem _ (h r hr)
theorem Ps.cons {q : Pf} (m : q ∈ P) (h : Ps P' P) : Ps (q :: P') P := fun r hr => (List.mem_cons.mp hr).elim (fun e => e ▸ m) (h r)
theorem Own.sub (h : Own K H L P) (s : Sb K P L' L) (q : Ps P' P) : Own K H L' P' := by
  obtain ⟨M, nd, hl, hs, hp⟩ := h.ex
  obtain ⟨L1, z, e, al⟩ := s
  have nd' := (e.map Prod.fst).nodup_iff.mp nd
  rw [List.map_append, List.nodup_append, al.fst] at nd'
  exact ⟨M, nd'.1, al.hd hp fun p hp' => hl p (e.mem_iff.mpr (List.mem_append.mpr (.inl hp'))), hs, fun r hr => hp r (q r hr)⟩
theorem Own.pick (h : Own K H L P) (m : Pk L B R) : Own K H (B ++ R) P := h.sub ⟨B ++ R, [], by rw [List.append_nil]; exact m, Al.refl _⟩ Ps.refl
/-- a flat value -/
def fv : PyData → V
  | .int i => .int i
  | .bool b => .bl b
  | .str x => .str x
  | _ => .non
def flatD : PyData → Bool
  | .int _ => true
  | .bool _ => true
  | .str _ => true
  | .none => true
  | _ => false
theorem dp_flat {M : Hp} : ∀ {d : PyData} {v : V}, Dp K M v d → flatD d = true → v = fv d
  | _, _, .non, _ => rfl
  | _, _, .bl _, _ => rfl
  | _, _, .int _, _ => rfl
  | _, _, .str _, _ => rfl
  | _, _, .lst _ _, h => nomatch h
  | _, _, .tup _ _, h => nomatch h
theorem dp_flats {M : Hp} : ∀ {vs : List V} {ds : List PyData}, DpAll K M vs ds → ds.all flatD = true → vs = ds.map fv
  | _, _, .nil, _ => rfl
  | _, _, .cons x y, h => by
    rw [List.all_cons, Bool.and_eq_true] at h
    rw [List.map_cons, ← dp_flat x h.1, ← dp_flats y h.2]
/-- a tuple of flat values opened -/
theorem Own.opn {v : V} {ds : List PyData} (h : Own K H L P) (x : Dv1 K P v (.tuple ds)) (hf : ds.all flatD = true := by rfl) : ∃ t, v = .ref t ∧ Own K H L (.sq t (ds.map fv) :: P) := by
  obtain ⟨M, nd, hl, hs, hp⟩ := h.ex
  cases x M hp with
  | @tup t xs _ hq ha =>
    refine ⟨t, rfl, M, nd, hl, hs, fun q hq' => ?_⟩
    rcases List.mem_cons.mp hq' with rfl | hq'
    · rw [← dp_flats ha hf]; exact hq
    · exact hp q hq'
/-- a list that is given up: it never changes any more -/
theorem Own.give (h : Own K H L P) (m : Pk L [(a, Ob.raw (.lst vs))] R) : Own K H R (.lst a vs :: P) := by
  have h2 : Own K H ((a, Ob.raw (.lst vs)) :: R) P := h.pick m
  obtain ⟨M, nd, hl, hs, hp⟩ := h2.ex
  rw [List.map_cons, List.nodup_cons] at nd
  have ha : H a = some (.lst vs) := (hl (a, Ob.raw (.lst vs)) List.mem_cons_self).1
  have ma : M a = none := (hl (a, Ob.raw (.lst vs)) List.mem_cons_self).2
  have sm : Same M (upd M a (.lst vs)) := same_upd ma
  refine ⟨upd M a (.lst vs), nd.2, fun q hq => ?_, fun b u hb => ?_, fun r hr => ?_⟩
  · have n : q.1 ≠ a := fun z => nd.1 (List.mem_map.mpr ⟨q, hq, z⟩)
    have := hl q (List.mem_cons_of_mem _ hq)
    exact ⟨this.1.same sm rfl, by rw [upd_ne n]; exact this.2⟩
  · by_cases z : b = a
    · subst z; rw [upd_same] at hb; rw [ha]; exact hb
    · rw [upd_ne z] at hb; exact hs _ _ hb
  · rcases List.mem_cons.mp hr with rfl | hr
    · exact (upd_same : upd M a (.lst vs) a = _)
    · exact r.same sm (hp r hr)
theorem Own.none_of (h : Own K H L P) (f : H p = none) : ∀ q ∈ L, q.1 ≠ p := fun q hq z => by
  obtain ⟨M, nd, hl, hs, hp⟩ := h.ex
  obtain ⟨u, hu⟩ := (hl q hq).1.some; rw [z, f] at hu; cases hu
/-- owned of nothing: a start -/
theorem Own.start {K : PySem.W.Frag} {H : Hp} : Own K H [] [] := ⟨fun _ => none, by simp, fun _ h => (nomatch h), fun _ _ h => (nomatch h), fun _ h => (nomatch h)⟩
theorem pg_trip {X : Cx} {i j l : Nat} {x y z : Str} {p1 p2 p3 pos : Pos} {kk : Nat} (hc : X.calm = true) (hN : X.N.Nodup) (hi : X.N[i]? = some x) (hj : X.N[j]? = some y) (hl : X.N[l]? = some z) (hx : Loc X.env.scope x) (hy : Loc X.env.scope y) (hz : Loc X.env.scope z)
    (hf : X.fn x = true ∨ X.env.scope.names.lookup x = some .local := by first | exact .inl rfl | exact .inr rfl | assumption) (hf2 : X.fn y = true ∨ X.env.scope.names.lookup y = some .local := by first | exact .inl rfl | exact .inr rfl | assumption) (hf3 : X.fn z = true ∨ X.env.scope.names.lookup z = some .local := by first | exact .inl rfl | exact .inr rfl | assumption)
    (hn : (assignEach [Expr.Name x p1, .Name y p2, .Name z p3] X.env).length = 3 := by rfl) (hst : (assignEach [Expr.Name x p1, .Name y p2, .Name z p3] X.env).findIdx? (·.1) = none := by rfl)
    (hs : (assignEach [Expr.Name x p1, .Name y p2, .Name z p3] X.env).map (·.2) = assign (.Name x p1) X.env :: (assignEach [Expr.Name y p2, .Name z p3] X.env).map (·.2) := by rfl)
    (hs2 : (assignEach [Expr.Name y p2, .Name z p3] X.env).map (·.2) = assign (.Name y p2) X.env :: (assignEach [Expr.Name z p3] X.env).map (·.2) := by rfl)
    (hs3 : (assignEach [Expr.Name z p3] X.env).map (·.2) = assign (.Name z p3) X.env :: (assignEach [] X.env).map (·.2) := by rfl) :
    PG X (.Tuple [.Name x p1, .Name y p2, .Name z p3] kk pos) (gTup X.K 3 (gCons (gName i) (gCons (gName j) (gCons (gName l) gNil)))) :=
  pg_tup hc (pgs_cons (pg_name hN hi hx hf) (pgs_cons (pg_name hN hj hy hf2) (pgs_cons (pg_name hN hl hz hf3) pgs_nil hs3) hs2) hs) hn hst
theorem kit_self' {K : PySem.W.Frag} {C : Addr} : PySem.W.kitOne K (.ref C) (.ref C) = some true := if_pos (beq_self_eq_true _)
/-! ### comprehensions -/
section
variable {g : TG} {te : TE} {tt : TT} {wv : List Nat} {σ : L2.St} {D : Addr} {Qd : Hp → Prop} {xs : List V}
theorem own_app {i : Nat} {y : V} {d : PyData} {vs : List V} (q' : Own K H ((D, .L ds) :: L) P) (ev : H D = some (.lst vs)) (dv : Dv1 K P y d) : Own K (upd H D (.lst (vs ++ [y]))) ((D, .L (ds ++ [d])) :: L) P := by
  refine q'.setU .head rfl fun M hp ho => ⟨vs ++ [y], upd_same, ?_⟩
  obtain ⟨vs', ev', dvs⟩ := ho _ List.mem_cons_self
  rw [ev] at ev'
  cases ev'
  exact L2.DpAll.app' dvs (.cons (dv M hp) .nil)
/-- a new list of data, over any walk -/
theorem lc_ownW {J : It} {n : Nat} {G : Hp → Prop} {Y : Nat → Hp → V → Hp → Prop} (w : Walk J n G Y) (ds : List PyData) (h : Own K H1 L P) (hD : H1 D = none) (hx : n = ds.length) (hz : n ≤ 10000)
    (ha : ∀ (H : Hp) (L' : List (Addr × Ob)) (P' : List Pf), (∀ p ∈ L, p ∈ L') → Ps P P' → Own K H L' P' → G H)
    (hs : ∀ (i : Nat) (x : V) (d : PyData) (H H' : Hp) (P' : List Pf) (Q : VK), i < n → Y i H x H' → ds[i]? = some d → Ps P P' → Own K H ((D, .L (ds.take i)) :: L) P' →
      (∀ (y : V) (H'' : Hp) (P'' : List Pf), Ps P' P'' → Own K H'' ((D, .L (ds.take i)) :: L) P'' → Dv1 K P'' y d → Q y H'') → g x (wipe σ wv) H' fun σ2 H2 => wipe σ2 wv = wipe σ wv ∧ te σ2 H2 Q)
    (hd : ∀ (H' : Hp) (P' : List Pf), Ps P P' → Own K H' ((D, .L ds) :: L) P' → Qd H') :
    ∃ W : Nat → Nat → Hp → Prop, (∃ m, W 0 m (upd H1 D (.lst []))) ∧ ∀ i m H, W i m H →
      (J.stop i H ∧ Qd H) ∨ (J.go i H ∧ ∃ Nx : Hp → Prop, (∀ H', Nx H' → ∃ m', m' < m ∧ W (i + 1) m' H') ∧ ∀ x H', J.yld i H x H' → g x (wipe σ wv) H' fun σ2 H2 => wipe σ2 wv = wipe σ wv ∧ tYes σ2 H2 fun b H3 =>
        if b = true then te σ2 H3 fun y H4 => ∃ acc, H4 D = some (.lst acc) ∧ acc.length < sizeLine ∧ Nx (upd H4 D (.lst (acc ++ [y]))) else Nx H3) := by
  refine lc_it w (fun i H => ∃ P', Ps P P' ∧ Own K H ((D, .L (ds.take i)) :: L) P') ⟨P, Ps.refl, ?_⟩ (fun i H _ ⟨P', s, q⟩ => ha H _ P' (fun p m => List.mem_cons_of_mem _ m) s q) (fun i x H H' hi ⟨P', s, q⟩ y => ?_) (fun H ⟨P', s, q⟩ => hd H P' s (by rw [List.take_of_length_le (by omega)] at q; exact q))
  · have h2 := h.new hD (o := .lst []) rfl
    exact h2.closeL (vs := []) List.mem_cons_self (by rw [List.take_zero]; exact Dv.nil) .head
  · have hi2 : i < ds.length := by omega
    refine hs i x ds[i] H H' P' _ hi y (List.getElem?_eq_getElem hi2) s q (fun y H'' P'' s' q' dv => ?_)
    obtain ⟨vs, ev, dvs⟩ := q'.lst List.mem_cons_self
    have len := dvs.len
    rw [List.length_take] at len
    refine ⟨vs, ev, size_lt (by omega), P'', fun r m => s' r (s r m), ?_⟩
    rw [List.take_add_one, List.getElem?_eq_getElem hi2]
    exact own_app (i := i) q' ev dv
/-- the same of flat values, as they are -/
theorem lc_rawW {J : It} {n : Nat} {G : Hp → Prop} {Y : Nat → Hp → V → Hp → Prop} (w : Walk J n G Y) (ys : List V) (h : Own K H1 L P) (hD : H1 D = none) (hx : n = ys.length) (hz : n ≤ 10000)
    (ha : ∀ (H : Hp) (L' : List (Addr × Ob)) (P' : List Pf), (∀ p ∈ L, p ∈ L') → Ps P P' → Own K H L' P' → G H)
    (hs : ∀ (i : Nat) (x y : V) (H H' : Hp) (P' : List Pf) (Q : VK), i < n → Y i H x H' → ys[i]? = some y → Ps P P' → Own K H ((D, .raw (.lst (ys.take i))) :: L) P' →
      (∀ (H'' : Hp) (P'' : List Pf), Ps P' P'' → Own K H'' ((D, .raw (.lst (ys.take i))) :: L) P'' → Q y H'') → g x (wipe σ wv) H' fun σ2 H2 => wipe σ2 wv = wipe σ wv ∧ te σ2 H2 Q)
    (hd : ∀ (H' : Hp) (P' : List Pf), Ps P P' → Own K H' ((D, .raw (.lst ys)) :: L) P' → Qd H') :
    ∃ W : Nat → Nat → Hp → Prop, (∃ m, W 0 m (upd H1 D (.lst []))) ∧ ∀ i m H, W i m H →
      (J.stop i H ∧ Qd H) ∨ (J.go i H ∧ ∃ Nx : Hp → Prop, (∀ H', Nx H' → ∃ m', m' < m ∧ W (i + 1) m' H') ∧ ∀ x H', J.yld i H x H' → g x (wipe σ wv) H' fun σ2 H2 => wipe σ2 wv = wipe σ wv ∧ tYes σ2 H2 fun b H3 =>
        if b = true then te σ2 H3 fun y H4 => ∃ acc, H4 D = some (.lst acc) ∧ acc.length < sizeLine ∧ Nx (upd H4 D (.lst (acc ++ [y]))) else Nx H3) := by
  refine lc_it w (fun i H => ∃ P', Ps P P' ∧ Own K H ((D, .raw (.lst (ys.take i))) :: L) P') ⟨P, Ps.refl, ?_⟩ (fun i H _ ⟨P', s, q⟩ => ha H _ P' (fun p m => List.mem_cons_of_mem _ m) s q) (fun i x H H' hi ⟨P', s, q⟩ y => ?_) (fun H ⟨P', s, q⟩ => hd H P' s (by rw [List.take_of_length_le (by omega)] at q; exact q))
  · rw [List.take_zero]; exact h.new hD rfl
  · have hi2 : i < ys.length := by omega
    refine hs i x ys[i] H H' P' _ hi y (List.getElem?_eq_getElem hi2) s q (fun H'' P'' s' q' => ?_)
    refine ⟨ys.take i, q'.raw List.mem_cons_self, size_lt (by rw [List.length_take]; omega), P'', fun r m => s' r (s r m), ?_⟩
    rw [List.take_add_one, List.getElem?_eq_getElem hi2]
    exact q'.set .head rfl
/-- sifted: those of zs that t takes, as they are; tt tells t, te the thing -/
theorem lc_siftW {α : Type} {J : It} {G : Hp → Prop} {Y : Nat → Hp → V → Hp → Prop} (zs : List α) (f : α → V) (t : α → Bool) (w : Walk J zs.length G Y) (h : Own K H1 L P) (hD : H1 D = none) (hz : zs.length ≤ 10000)
    (ha : ∀ (H : Hp) (L' : List (Addr × Ob)) (P' : List Pf), (∀ p ∈ L, p ∈ L') → Ps P P' → Own K H L' P' → G H)
    (hs : ∀ (i : Nat) (z : α) (x : V) (H H' : Hp) (P' : List Pf) (ys : List V) (Qn : Hp → Prop) (Qy : VK), zs[i]? = some z → Y i H x H' → Ps P P' → Own K H ((D, .raw (.lst ys)) :: L) P' →
      (t z = false → ∀ (H'' : Hp) (P'' : List Pf), Ps P' P'' → Own K H'' ((D, .raw (.lst ys)) :: L) P'' → Qn H'') →
      (t z = true → ∀ (H'' : Hp) (P'' : List Pf), Ps P' P'' → Own K H'' ((D, .raw (.lst ys)) :: L) P'' → Qy (f z) H'') → g x (wipe σ wv) H' fun σ2 H2 => wipe σ2 wv = wipe σ wv ∧ tt σ2 H2 fun b H3 => if b = true then te σ2 H3 Qy else Qn H3)
    (hd : ∀ (H' : Hp) (P' : List Pf), Ps P P' → Own K H' ((D, .raw (.lst ((zs.filter t).map f))) :: L) P' → Qd H') :
    ∃ W : Nat → Nat → Hp → Prop, (∃ m, W 0 m (upd H1 D (.lst []))) ∧ ∀ i m H, W i m H →
      (J.stop i H ∧ Qd H) ∨ (J.go i H ∧ ∃ Nx : Hp → Prop, (∀ H', Nx H' → ∃ m', m' < m ∧ W (i + 1) m' H') ∧ ∀ x H', J.yld i H x H' → g x (wipe σ wv) H' fun σ2 H2 => wipe σ2 wv = wipe σ wv ∧ tt σ2 H2 fun b H3 =>
        if b = true then te σ2 H3 fun y H4 => ∃ acc, H4 D = some (.lst acc) ∧ acc.length < sizeLine ∧ Nx (upd H4 D (.lst (acc ++ [y]))) else Nx H3) := by
  refine lc_it w (fun i H => ∃ P', Ps P P' ∧ Own K H ((D, .raw (.lst (((zs.take i).filter t).map f))) :: L) P') ⟨P, Ps.refl, ?_⟩ (fun i H _ ⟨P', s, q⟩ => ha H _ P' (fun p m => List.mem_cons_of_mem _ m) s q) (fun i x H H' hi ⟨P', s, q⟩ y => ?_) (fun H ⟨P', s, q⟩ => hd H P' s (by rw [List.take_of_length_le (by omega)] at q; exact q))
  · rw [List.take_zero]; exact h.new hD rfl
  · have et : zs.take (i + 1) = zs.take i ++ [zs[i]] := by rw [List.take_add_one, List.getElem?_eq_getElem hi]; rfl
    refine hs i zs[i] x H H' P' _ _ _ (List.getElem?_eq_getElem hi) y s q (fun tn H'' P'' s' q' => ⟨P'', fun r m => s' r (s r m), ?_⟩) (fun ty H'' P'' s' q' => ?_)
    · rw [et, List.filter_append, List.filter_cons, tn]; simpa using q'
    · refine ⟨_, q'.raw List.mem_cons_self, size_lt (by rw [List.length_map]; exact Nat.le_trans (List.length_filter_le _ _) (by rw [List.length_take]; omega)), P'', fun r m => s' r (s r m), ?_⟩
      have e2 : ((zs.take (i + 1)).filter t).map f = ((zs.take i).filter t).map f ++ [f zs[i]] := by rw [et, List.filter_append, List.filter_cons, ty]; simp
      rw [e2]
      exact q'.set .head rfl
end
/-! ### the pot -/
def PotO (o : HO) : Prop := ∃ x y : Int, o = .lst [.int x, .int y] ∧ 0 ≤ x ∧ 0 ≤ y ∧ y < 4294967296
def pt (a : Addr) : List (Addr × Ob) := [(a, .such PotO)]
/-- called with the pot and how many: a number below that, and the pot is still one -/
def spDrw (K : PySem.W.Frag) : Sp := fun vs H Q _ => ∃ (a : Addr) (n : Int) (R : List (Addr × Ob)) (P : List Pf), vs = [.ref a, .int n] ∧ Own K H (pt a ++ R) P ∧ 0 < n ∧ n < 1073741824 ∧
  ∀ (d : Int) (H' : Hp), 0 ≤ d → d < n → Own K H' (pt a ++ R) P → Q (.int d) H'
end Hx

set_option Elab.async false
set_option linter.all false
set_option maxRecDepth 100000
set_option maxHeartbeats 4000000
/-! cuts: what holds behind a statement, behind a test, is said once for all ways that come there -/
namespace Hx
open PySem PySem.Spec PyProof.Rows L2
def tMid (t : TS) : TS := fun D σ H => Stop (∃ Mid : L2.St → Hp → Prop, t { D with nx := Mid } σ H ∧ ∀ σ' H', Mid σ' H' → D.nx σ' H')
theorem ps_mid {X : Cx} {st : Stmt} {t : TS} (h : PS X st t) : PS X st (tMid t) := by
  refine ⟨fun pins s σ H D I q => ?_⟩
  obtain ⟨Mid, q, r⟩ := q.h
  refine thn (h.run pins s σ H { D with nx := Mid } I q) fun f s1 q => ?_
  cases f with
  | next =>
    obtain ⟨σ', H', I', q⟩ := q
    exact ⟨σ', H', I', r _ _ q⟩
  | ret v => exact q
  | brk => exact q
  | cont => exact q
def tTMid (t : TT) : TT := fun σ H Q => Stop (∃ Mid : Bool → Hp → Prop, t σ H Mid ∧ ∀ b H', Mid b H' → Q b H')
theorem pt_mid {X : Cx} {c : Expr} {t : TT} (h : PT X c t) : PT X c (tTMid t) := by
  refine ⟨fun pins s σ H Q I q => ?_⟩
  obtain ⟨Mid, q, r⟩ := q.h
  refine thn (h.run pins s σ H Mid I q) fun d s1 q => ?_
  obtain ⟨H1, I1, q⟩ := q
  exact ⟨H1, I1, r _ _ q⟩
def tEMid (t : TE) : TE := fun σ H Q => Stop (∃ Mid : VK, t σ H Mid ∧ ∀ v H', Mid v H' → Q v H')
theorem pe_mid {X : Cx} {e : Expr} {t : TE} (h : PE X e t) : PE X e (tEMid t) := by
  refine ⟨fun pins s σ H Q I q => ?_⟩
  obtain ⟨Mid, q, r⟩ := q.h
  refine thn (h.run pins s σ H Mid I q) fun d s1 q => ?_
  obtain ⟨v, H1, I1, rv, q⟩ := q
  exact ⟨v, H1, I1, rv, r _ _ q⟩
theorem Ps.trans {P P' P'' : List Pf} (h : Ps P P') (k : Ps P' P'') : Ps P P'' := fun r hr => k r (h r hr)
end Hx

set_option Elab.async false
set_option linter.all false
set_option maxRecDepth 100000
set_option maxHeartbeats 4000000
/-! HsDict: dicts with keys of ints in owned heaps: look-ups, stores, walks under a lock, comprehensions; sorted lists -/
namespace Hx
open PySem PySem.Spec PyProof.Rows L2
/-- a target x, (y, z) -/
theorem pg_pairN {X : Cx} {i j l : Nat} {x y z : Str} {p1 p2 p3 pos pos2 : Pos} {kk kk2 : Nat} (hc : X.calm = true) (hN : X.N.Nodup) (hi : X.N[i]? = some x) (hj : X.N[j]? = some y) (hl : X.N[l]? = some z) (hx : Loc X.env.scope x) (hy : Loc X.env.scope y) (hz : Loc X.env.scope z)
    (hf : X.fn x = true ∨ X.env.scope.names.lookup x = some .local := by first | exact .inl rfl | exact .inr rfl | assumption) (hf2 : X.fn y = true ∨ X.env.scope.names.lookup y = some .local := by first | exact .inl rfl | exact .inr rfl | assumption) (hf3 : X.fn z = true ∨ X.env.scope.names.lookup z = some .local := by first | exact .inl rfl | exact .inr rfl | assumption)
    (hn : (assignEach [Expr.Name x p1, .Tuple [.Name y p2, .Name z p3] kk2 pos2] X.env).length = 2 := by rfl) (hst : (assignEach [Expr.Name x p1, .Tuple [.Name y p2, .Name z p3] kk2 pos2] X.env).findIdx? (·.1) = none := by rfl)
    (hs : (assignEach [Expr.Name x p1, .Tuple [.Name y p2, .Name z p3] kk2 pos2] X.env).map (·.2) = assign (.Name x p1) X.env :: (assignEach [Expr.Tuple [.Name y p2, .Name z p3] kk2 pos2] X.env).map (·.2) := by rfl)
    (hs2 : (assignEach [Expr.Tuple [.Name y p2, .Name z p3] kk2 pos2] X.env).map (·.2) = assign (.Tuple [.Name y p2, .Name z p3] kk2 pos2) X.env :: (assignEach [] X.env).map (·.2) := by rfl)
    (hn' : (assignEach [Expr.Name y p2, .Name z p3] X.env).length = 2 := by rfl) (hst' : (assignEach [Expr.Name y p2, .Name z p3] X.env).findIdx? (·.1) = none := by rfl)
    (hs' : (assignEach [Expr.Name y p2, .Name z p3] X.env).map (·.2) = assign (.Name y p2) X.env :: (assignEach [Expr.Name z p3] X.env).map (·.2) := by rfl)
    (hs2' : (assignEach [Expr.Name z p3] X.env).map (·.2) = assign (.Name z p3) X.env :: (assignEach [] X.env).map (·.2) := by rfl) :
    PG X (.Tuple [.Name x p1, .Tuple [.Name y p2, .Name z p3] kk2 pos2] kk pos) (gTup X.K 2 (gCons (gName i) (gCons (gTup X.K 2 (gCons (gName j) (gCons (gName l) gNil))) gNil))) :=
  pg_tup hc (pgs_cons (pg_name hN hi hx hf) (pgs_cons (pg_pair hc hN hj hl hy hz hf2 hf3 hn' hst' hs' hs2') pgs_nil hs2) hs) hn hst
/-! ### pairs as tables, of data -/
def valD (kds : List (Key × PyData)) (k : Key) : Option PyData := (kds.find? fun kv => decide (kv.1 = k)).map (·.2)
def putD (kds : List (Key × PyData)) (k : Key) (d : PyData) : List (Key × PyData) :=
  if (kds.any fun kv => decide (kv.1 = k)) = true then kds.map (fun kv => if kv.1 = k then (kv.1, d) else kv) else kds ++ [(k, d)]
def dropD (kds : List (Key × PyData)) (k : Key) : List (Key × PyData) := kds.filter fun kv => decide (kv.1 ≠ k)
section
variable {K : PySem.W.Frag} {P : List Pf}
theorem keys_cons {p : Key × V} {kvs : List (Key × V)} {q : Key × PyData} {kds : List (Key × PyData)} (h : (p :: kvs).map Prod.fst = (q :: kds).map Prod.fst) : p.1 = q.1 ∧ kvs.map Prod.fst = kds.map Prod.fst := by
  simpa using h
theorem valV_isSome : ∀ {kvs : List (Key × V)} {kds : List (Key × PyData)} (k : Key), kvs.map Prod.fst = kds.map Prod.fst → (valV kvs k).isSome = (valD kds k).isSome
  | [], [], _, _ => rfl
  | [], _ :: _, _, h => by simp at h
  | _ :: _, [], _, h => by simp at h
  | p :: kvs, q :: kds, k, h => by
    obtain ⟨h1, h2⟩ := keys_cons h
    have ih := valV_isSome k h2
    by_cases e : p.1 = k
    · have e2 : q.1 = k := h1 ▸ e
      simp [valV, valD, List.find?_cons, e, e2]
    · have e2 : ¬ q.1 = k := h1 ▸ e
      simp only [valV, valD] at ih
      simp [valV, valD, List.find?_cons, e, e2, ih]
theorem valV_dp {M : Hp} : ∀ {kvs : List (Key × V)} {kds : List (Key × PyData)} {k : Key} {v : V} {d : PyData}, kvs.map Prod.fst = kds.map Prod.fst → DpAll K M (kvs.map Prod.snd) (kds.map Prod.snd) → valV kvs k = some v → valD kds k = some d → Dp K M v d
  | [], _, k, v, d, _, _, e, _ => by simp [valV] at e
  | _ :: _, [], _, _, _, h, _, _, _ => by simp at h
  | p :: kvs, q :: kds, k, v, d, h, hd, e1, e2 => by
    obtain ⟨h1, h2⟩ := keys_cons h
    cases hd with
    | cons x y =>
      by_cases e : p.1 = k
      · have e' : q.1 = k := h1 ▸ e
        simp [valV, List.find?_cons, e] at e1
        simp [valD, List.find?_cons, e'] at e2
        subst e1; subst e2
        exact x
      · have e' : ¬ q.1 = k := h1 ▸ e
        refine valV_dp (k := k) h2 y ?_ ?_
        · simpa [valV, List.find?_cons, e] using e1
        · simpa [valD, List.find?_cons, e'] using e2
theorem Dv.val {kvs : List (Key × V)} {kds : List (Key × PyData)} {k : Key} {v : V} {d : PyData} (x : Dv K P (kvs.map Prod.snd) (kds.map Prod.snd)) (hk : kvs.map Prod.fst = kds.map Prod.fst) (e1 : valV kvs k = some v) (e2 : valD kds k = some d) : Dv1 K P v d := fun M h => valV_dp hk (x M h) e1 e2
theorem valV_of {kvs : List (Key × V)} {kds : List (Key × PyData)} {k : Key} {d : PyData} (hk : kvs.map Prod.fst = kds.map Prod.fst) (e : valD kds k = some d) : ∃ v, valV kvs k = some v := by
  have := valV_isSome k hk
  rw [e] at this
  exact Option.isSome_iff_exists.mp this
theorem valV_ofN {kvs : List (Key × V)} {kds : List (Key × PyData)} {k : Key} (hk : kvs.map Prod.fst = kds.map Prod.fst) (e : valD kds k = none) : valV kvs k = none := by
  have := valV_isSome k hk
  rw [e] at this
  exact Option.not_isSome_iff_eq_none.mp (by rw [this]; decide)
theorem any_keys : ∀ {kvs : List (Key × V)} {kds : List (Key × PyData)} (k : Key), kvs.map Prod.fst = kds.map Prod.fst → (kvs.any fun kv => decide (kv.1 = k)) = (kds.any fun kv => decide (kv.1 = k))
  | [], [], _, _ => rfl
  | [], _ :: _, _, h => by simp at h
  | _ :: _, [], _, h => by simp at h
  | p :: kvs, q :: kds, k, h => by
    obtain ⟨h1, h2⟩ := keys_cons h
    rw [List.any_cons, List.any_cons, any_keys k h2, h1]
theorem putK_fst {kvs : List (Key × V)} {kds : List (Key × PyData)} (hk : kvs.map Prod.fst = kds.map Prod.fst) (k : Key) (v : V) (d : PyData) : (putK kvs k v).map Prod.fst = (putD kds k d).map Prod.fst := by
  have e : ∀ {α : Type} (y : α) (l : List (Key × α)), (l.map fun kv => if kv.1 = k then (kv.1, y) else kv).map Prod.fst = l.map Prod.fst := fun y l => by
    rw [List.map_map]
    refine List.map_congr_left fun kv _ => ?_
    simp only [Function.comp]
    split <;> rfl
  unfold putK putD
  rw [any_keys k hk]
  split
  · rw [e, e, hk]
  · rw [List.map_append, List.map_append, hk]; rfl
theorem put_dp {M : Hp} : ∀ {kvs : List (Key × V)} {kds : List (Key × PyData)} {k : Key} {v : V} {d : PyData}, kvs.map Prod.fst = kds.map Prod.fst → DpAll K M (kvs.map Prod.snd) (kds.map Prod.snd) → Dp K M v d →
    DpAll K M ((kvs.map fun kv => if kv.1 = k then (kv.1, v) else kv).map Prod.snd) ((kds.map fun kv => if kv.1 = k then (kv.1, d) else kv).map Prod.snd)
  | [], [], _, _, _, _, _, _ => .nil
  | [], _ :: _, _, _, _, h, _, _ => by simp at h
  | _ :: _, [], _, _, _, h, _, _ => by simp at h
  | p :: kvs, q :: kds, k, v, d, h, hd, x => by
    obtain ⟨h1, h2⟩ := keys_cons h
    cases hd with
    | cons a b =>
      have ih := put_dp (k := k) h2 b x
      simp only [List.map_cons]
      refine .cons ?_ ih
      by_cases e : p.1 = k
      · rw [if_pos e, if_pos (h1 ▸ e)]; exact x
      · rw [if_neg e, if_neg (h1 ▸ e)]; exact a
theorem Dv.put {kvs : List (Key × V)} {kds : List (Key × PyData)} {k : Key} {v : V} {d : PyData} (x : Dv K P (kvs.map Prod.snd) (kds.map Prod.snd)) (hk : kvs.map Prod.fst = kds.map Prod.fst) (y : Dv1 K P v d) : Dv K P ((putK kvs k v).map Prod.snd) ((putD kds k d).map Prod.snd) := fun M h => by
  unfold putK putD
  rw [any_keys k hk]
  split
  · exact put_dp hk (x M h) (y M h)
  · rw [List.map_append, List.map_append]
    exact L2.DpAll.app' (x M h) (.cons (y M h) .nil)
theorem dropK_fst : ∀ {kvs : List (Key × V)} {kds : List (Key × PyData)} (k : Key), kvs.map Prod.fst = kds.map Prod.fst → (dropK kvs k).map Prod.fst = (dropD kds k).map Prod.fst
  | [], [], _, _ => rfl
  | [], _ :: _, _, h => by simp at h
  | _ :: _, [], _, h => by simp at h
  | p :: kvs, q :: kds, k, h => by
    obtain ⟨h1, h2⟩ := keys_cons h
    have ih := dropK_fst k h2
    unfold dropK dropD at ih ⊢
    rw [List.filter_cons, List.filter_cons, h1]
    split
    · rw [List.map_cons, List.map_cons, ih, h1]
    · exact ih
theorem drop_dp {M : Hp} : ∀ {kvs : List (Key × V)} {kds : List (Key × PyData)} {k : Key}, kvs.map Prod.fst = kds.map Prod.fst → DpAll K M (kvs.map Prod.snd) (kds.map Prod.snd) → DpAll K M ((dropK kvs k).map Prod.snd) ((dropD kds k).map Prod.snd)
  | [], [], _, _, _ => .nil
  | [], _ :: _, _, h, _ => by simp at h
  | _ :: _, [], _, h, _ => by simp at h
  | p :: kvs, q :: kds, k, h, hd => by
    obtain ⟨h1, h2⟩ := keys_cons h
    cases hd with
    | cons a b =>
      have ih := drop_dp (k := k) h2 b
      unfold dropK dropD at ih ⊢
      rw [List.filter_cons, List.filter_cons, h1]
      split
      · exact .cons a ih
      · exact ih
theorem Dv.drop' {kvs : List (Key × V)} {kds : List (Key × PyData)} {k : Key} (x : Dv K P (kvs.map Prod.snd) (kds.map Prod.snd)) (hk : kvs.map Prod.fst = kds.map Prod.fst) : Dv K P ((dropK kvs k).map Prod.snd) ((dropD kds k).map Prod.snd) := fun M h => drop_dp hk (x M h)
/-! rows as a table -/
theorem valD_rows {α : Type} (key : α → Int) (dat : α → PyData) (rs : List α) (n : Int) : valD (rs.map fun r => (Sum.inl (key r), dat r)) (Sum.inl n) = (rs.find? fun r => decide (key r = n)).map dat := by
  unfold valD
  rw [List.find?_map, Option.map_map]
  congr 1
  congr 1
  funext r
  simp [Function.comp]
theorem dropD_rows {α : Type} (key : α → Int) (dat : α → PyData) (rs : List α) (n : Int) : dropD (rs.map fun r => (Sum.inl (key r), dat r)) (Sum.inl n) = (rs.filter fun r => decide (key r ≠ n)).map fun r => (Sum.inl (key r), dat r) := by
  unfold dropD
  rw [List.filter_map]
  congr 1
  congr 1
  funext r
  simp [Function.comp]
theorem putD_new {kds : List (Key × PyData)} {k : Key} {d : PyData} (h : valD kds k = none) : putD kds k d = kds ++ [(k, d)] := by
  unfold putD
  rw [if_neg]
  intro e
  obtain ⟨x, hx, he⟩ := List.any_eq_true.mp e
  unfold valD at h
  rw [Option.map_eq_none_iff, List.find?_eq_none] at h
  exact h x hx he
theorem putD_rows {α : Type} (key : α → Int) (dat : α → PyData) (rs : List α) (n : Int) (d : PyData) (f : α → α) (hin : ∃ r ∈ rs, key r = n) (hk : ∀ r, key (f r) = key r) (hd : ∀ r ∈ rs, key r = n → dat (f r) = d) (ho : ∀ r ∈ rs, key r ≠ n → f r = r) :
    putD (rs.map fun r => (Sum.inl (key r), dat r)) (Sum.inl n) d = (rs.map f).map fun r => (Sum.inl (key r), dat r) := by
  unfold putD
  rw [if_pos]
  · rw [List.map_map, List.map_map]
    refine List.map_congr_left fun r hr => ?_
    simp only [Function.comp]
    by_cases e : key r = n
    · rw [if_pos (by rw [e]), hk, hd r hr e]
    · rw [if_neg (fun z => e (by injection z)), ho r hr e]
  · obtain ⟨r, hr, e⟩ := hin
    rw [List.any_map]
    exact List.any_eq_true.mpr ⟨r, hr, by simp [Function.comp, e]⟩
end
/-! ### walker's facts -/
theorem DGet.ki {H : Hp} {a : Addr} {kvs : List (Key × V)} {n : Int} {o : Option V} (e : H a = some (.dK kvs)) (h : valV kvs (Sum.inl n) = o) : DGet H a (.int n) o := h ▸ DGet.k (k := Sum.inl n) e
theorem DGet.kiF {H : Hp} {a : Addr} {kvs : List (Key × V)} {n : Int} {o : Option V} {od : Obj} (e : H a = some (.frz od (.dK kvs))) (h : valV kvs (Sum.inl n) = o) : DGet H a (.int n) o := h ▸ .inl ⟨kvs, Sum.inl n, .inr ⟨od, e⟩, rfl, rfl⟩
theorem DPut.ki {H : Hp} {a : Addr} {kvs : List (Key × V)} {n : Int} {v : V} (e : H a = some (.dK kvs)) (hl : kvs.length < sizeLine) : DPut H a (.int n) v (upd H a (.dK (putK kvs (Sum.inl n) v))) := DPut.k (k := Sum.inl n) e hl
theorem at0 (v : V) (l : List V) : atI (v :: l) 0 = some v := by
  have h := atI_nat (xs := v :: l) (j := 0) (v := v) rfl
  exact h
theorem at1 (u v : V) (l : List V) : atI (u :: v :: l) 1 = some v := by
  have h := atI_nat (xs := u :: v :: l) (j := 1) (v := v) rfl
  exact h
theorem at2 (t u v : V) (l : List V) : atI (t :: u :: v :: l) 2 = some v := by
  have h := atI_nat (xs := t :: u :: v :: l) (j := 2) (v := v) rfl
  exact h
theorem isSome_ofV {o : Option V} {v : V} (h : o = some v) : o.isSome = true := by rw [h]; rfl
theorem kV_int {n : Int} : V.int n = kV (Sum.inl n) := rfl
/-! ### locks at which the walker stops -/
def tLockS (t : TS) : TS := fun D σ H => Stop (tLock t D σ H)
def tLockES (t : TE) : TE := fun σ H Q => Stop (tLockE t σ H Q)
theorem tLockS_eq (t : TS) : tLockS t = tLock t := by funext D σ H; exact stop_eq
theorem tLockES_eq (t : TE) : tLockES t = tLockE t := by funext σ H Q; exact stop_eq
theorem ps_lockS {X : Cx} {st : Stmt} {t : TS} (h : PS X st t) : PS X st (tLockS t) := by rw [tLockS_eq]; exact ps_lock h
theorem pe_lockS {X : Cx} {e : Expr} {t : TE} (h : PE X e t) : PE X e (tLockES t) := by rw [tLockES_eq]; exact pe_lock h
variable {K : PySem.W.Frag} {H H1 M : Hp} {L L' R B : List (Addr × Ob)} {P P' : List Pf} {a d : Addr} {u : HO}
theorem Own.lockE {t : TE} {σ : L2.St} {Q : VK} (h : Own K H L P) (m : (d, Ob.raw u) ∈ L) (hm : Mut (some u)) (k : ∀ (od : Obj) (H1 : Hp), (∀ L', At L d (.raw (.frz od u)) L' → Own K H1 L' P) → t σ H1 fun v H' => H' d = some (.frz od u) ∧ Q v (upd H' d u)) : tLockES t σ H Q :=
  ⟨⟨d, u, h.raw m, hm, fun od => k od _ fun L' m' => h.set m' rfl⟩⟩
theorem Own.lockS {t : TS} {σ : L2.St} {D : L2.Ends} (h : Own K H L P) (m : (d, Ob.raw u) ∈ L) (hm : Mut (some u)) (k : ∀ (od : Obj) (H1 : Hp), (∀ L', At L d (.raw (.frz od u)) L' → Own K H1 L' P) →
    t ⟨fun σ' H' => H' d = some (.frz od u) ∧ D.nx σ' (upd H' d u), fun v H' => H' d = some (.frz od u) ∧ D.rt v (upd H' d u), fun σ' H' => H' d = some (.frz od u) ∧ D.bk σ' (upd H' d u), fun σ' H' => H' d = some (.frz od u) ∧ D.ct σ' (upd H' d u)⟩ σ H1) : tLockS t D σ H :=
  ⟨⟨d, u, h.raw m, hm, fun od => k od _ fun L' m' => h.set m' rfl⟩⟩
/-! ### a tuple of any data opened -/
theorem Own.opnD {v : V} {ds : List PyData} (h : Own K H L P) (x : Dv1 K P v (.tuple ds)) : ∃ t vs, v = .ref t ∧ vs.length = ds.length ∧ Own K H L (.sq t vs :: .dp vs ds :: P) := by
  obtain ⟨M, nd, hl, hs, hp⟩ := h.ex
  cases x M hp with
  | @tup t xs _ hq ha =>
    refine ⟨t, xs, rfl, ha.len, M, nd, hl, hs, fun q hq' => ?_⟩
    rcases List.mem_cons.mp hq' with rfl | hq'
    · exact hq
    rcases List.mem_cons.mp hq' with rfl | hq'
    · exact ha
    · exact hp q hq'
theorem Own.opn2 {v : V} {x y : PyData} (h : Own K H L P) (q : Dv1 K P v (.tuple [x, y])) : ∃ t a b, v = .ref t ∧ Own K H L (.sq t [a, b] :: .dp [a] [x] :: .dp [b] [y] :: P) := by
  obtain ⟨t, vs, e, hl, o⟩ := h.opnD q
  match vs, hl with
  | [a, b], _ =>
    refine ⟨t, a, b, e, ?_⟩
    have dv : Dv K (.sq t [a, b] :: .dp [a, b] [x, y] :: P) [a, b] [x, y] := Dv.of (List.mem_cons_of_mem _ List.mem_cons_self)
    have o2 := o.dv1 dv.tl.hd
    have o3 := o2.dv1 (v := a) (d := x) (fun M hM => dv.hd M fun q hq => hM q (List.mem_cons_of_mem _ hq))
    refine o3.sub (Sb.refl _) fun r hr => ?_
    simp only [List.mem_cons] at hr ⊢
    rcases hr with rfl | rfl | rfl | hr
    · simp
    · simp
    · simp
    · simp [hr]
theorem Dv1.mono {v : V} {d : PyData} (h : Dv1 K P v d) (s : Ps P P') : Dv1 K P' v d := fun M q => h M fun r hr => q r (s r hr)
theorem Dv.mono {vs : List V} {ds : List PyData} (h : Dv K P vs ds) (s : Ps P P') : Dv K P' vs ds := fun M q => h M fun r hr => q r (s r hr)
theorem Dv1.intD {v : V} {i : Int} (h : Dv1 K P v (.int i)) (o : Own K H L P) : v = .int i := by
  cases o.one h with | int _ => rfl
abbrev rMax2 : List V → Hp → VK → Prop := fun xs H Q => ∃ i j, xs = [.int i, .int j] ∧ Q (.int (if j > i then j else i)) H
/-! ### comprehensions of dicts -/
section
variable {g : TG} {te tk tv : TE} {tt : TT} {wv : List Nat} {σ : L2.St} {D : Addr} {Qd : Hp → Prop}
theorem dc_it {J : It} {n : Nat} {G : Hp → Prop} {Y : Nat → Hp → V → Hp → Prop} (w : Walk J n G Y) (Pv : Nat → Hp → Prop) (h0 : Pv 0 (upd H1 D (.dK []))) (hG : ∀ i H, i ≤ n → Pv i H → G H)
    (hs : ∀ i x H H', i < n → Pv i H → Y i H x H' → g x (wipe σ wv) H' fun σ2 H2 => wipe σ2 wv = wipe σ wv ∧ tt σ2 H2 fun b H3 =>
      if b = true then tk σ2 H3 fun y H4 => tv σ2 H4 fun z H5 => ∃ kvs k, y = kV k ∧ H5 D = some (.dK kvs) ∧ kvs.length < sizeLine ∧ Pv (i + 1) (upd H5 D (.dK (putK kvs k z))) else Pv (i + 1) H3) (hd : ∀ H, Pv n H → Qd H) :
    ∃ W : Nat → Nat → Hp → Prop, (∃ m, W 0 m (upd H1 D (.dK []))) ∧ ∀ i m H, W i m H →
      (J.stop i H ∧ Qd H) ∨ (J.go i H ∧ ∃ Nx : Hp → Prop, (∀ H', Nx H' → ∃ m', m' < m ∧ W (i + 1) m' H') ∧ ∀ x H', J.yld i H x H' → g x (wipe σ wv) H' fun σ2 H2 => wipe σ2 wv = wipe σ wv ∧ tt σ2 H2 fun b H3 =>
        if b = true then tk σ2 H3 fun y H4 => tv σ2 H4 fun z H5 => ∃ kvs k, y = kV k ∧ H5 D = some (.dK kvs) ∧ kvs.length < sizeLine ∧ Nx (upd H5 D (.dK (putK kvs k z))) else Nx H3) := by
  refine ⟨fun i m H => m = n - i ∧ i ≤ n ∧ Pv i H, ⟨n, by simp, Nat.zero_le _, h0⟩, ?_⟩
  rintro i m H ⟨rfl, hi, p⟩
  have q := hG i H hi p
  by_cases hlt : i < n
  · refine .inr ⟨w.goes i H hlt q, Pv (i + 1), fun H' p' => ⟨n - (i + 1), by omega, rfl, hlt, p'⟩, fun x H' y => hs i x H H' hlt p (w.yields i H x H' hlt q y)⟩
  · have e : i = n := by omega
    subst e
    exact .inl ⟨w.stops H q, hd H p⟩
/-- a new dict by a walk, sifted; its keys are all different -/
theorem dc_siftW {α : Type} {J : It} {G : Hp → Prop} {Y : Nat → Hp → V → Hp → Prop} (zs : List α) (key : α → Int) (dat : α → PyData) (t : α → Bool) (nd : (zs.map key).Nodup) (w : Walk J zs.length G Y) (h : Own K H1 L P) (hD : H1 D = none) (hz : zs.length ≤ 10000)
    (ha : ∀ (H : Hp) (L' : List (Addr × Ob)) (P' : List Pf), (∀ p ∈ L, p ∈ L') → Ps P P' → Own K H L' P' → G H)
    (hs : ∀ (i : Nat) (z : α) (x : V) (H H' : Hp) (P' : List Pf) (kds : List (Key × PyData)) (Qn : Hp → Prop) (Qy : V → V → Hp → Prop), zs[i]? = some z → Y i H x H' → Ps P P' → Own K H ((D, .D kds) :: L) P' →
      (t z = false → ∀ (H'' : Hp) (P'' : List Pf), Ps P' P'' → Own K H'' ((D, .D kds) :: L) P'' → Qn H'') →
      (t z = true → ∀ (y : V) (H'' : Hp) (P'' : List Pf), Ps P' P'' → Own K H'' ((D, .D kds) :: L) P'' → Dv1 K P'' y (dat z) → Qy (.int (key z)) y H'') →
      g x (wipe σ wv) H' fun σ2 H2 => wipe σ2 wv = wipe σ wv ∧ tt σ2 H2 fun b H3 => if b = true then tk σ2 H3 fun y H4 => tv σ2 H4 fun z H5 => Qy y z H5 else Qn H3)
    (hd : ∀ (H' : Hp) (P' : List Pf), Ps P P' → Own K H' ((D, .D ((zs.filter t).map fun z => (Sum.inl (key z), dat z))) :: L) P' → Qd H') :
    ∃ W : Nat → Nat → Hp → Prop, (∃ m, W 0 m (upd H1 D (.dK []))) ∧ ∀ i m H, W i m H →
      (J.stop i H ∧ Qd H) ∨ (J.go i H ∧ ∃ Nx : Hp → Prop, (∀ H', Nx H' → ∃ m', m' < m ∧ W (i + 1) m' H') ∧ ∀ x H', J.yld i H x H' → g x (wipe σ wv) H' fun σ2 H2 => wipe σ2 wv = wipe σ wv ∧ tt σ2 H2 fun b H3 =>
        if b = true then tk σ2 H3 fun y H4 => tv σ2 H4 fun z H5 => ∃ kvs k, y = kV k ∧ H5 D = some (.dK kvs) ∧ kvs.length < sizeLine ∧ Nx (upd H5 D (.dK (putK kvs k z))) else Nx H3) := by
  refine dc_it w (fun i H => ∃ P', Ps P P' ∧ Own K H ((D, .D (((zs.take i).filter t).map fun z => (Sum.inl (key z), dat z))) :: L) P') ⟨P, Ps.refl, ?_⟩ (fun i H _ ⟨P', s, q⟩ => ha H _ P' (fun p m => List.mem_cons_of_mem _ m) s q) (fun i x H H' hi ⟨P', s, q⟩ y => ?_) (fun H ⟨P', s, q⟩ => hd H P' s (by rw [List.take_of_length_le (Nat.le_refl _)] at q; exact q))
  · have h2 := h.new hD (o := .dK []) rfl
    exact h2.closeD (kvs := []) List.mem_cons_self (by rw [List.take_zero]; rfl) (by rw [List.take_zero]; exact Dv.nil) .head
  · have et : zs.take (i + 1) = zs.take i ++ [zs[i]] := by rw [List.take_add_one, List.getElem?_eq_getElem hi]; rfl
    refine hs i zs[i] x H H' P' _ _ _ (List.getElem?_eq_getElem hi) y s q (fun tn H'' P'' s' q' => ⟨P'', fun r m => s' r (s r m), ?_⟩) (fun ty y H'' P'' s' q' dv => ?_)
    · rw [et, List.filter_append, List.filter_cons, tn]; simpa using q'
    · obtain ⟨kvs, hk, o1⟩ := q'.openD List.mem_cons_self
      have hlen : kvs.length = (((zs.take i).filter t).map fun z => ((Sum.inl (key z) : Key), dat z)).length := by simpa using congrArg List.length hk
      have hraw : H'' D = some (.dK kvs) := (o1 _ .head).raw List.mem_cons_self
      refine ⟨kvs, Sum.inl (key zs[i]), rfl, hraw, size_lt (by
        rw [hlen, List.length_map]
        exact Nat.le_trans (List.length_filter_le _ _) (by rw [List.length_take]; omega)), P'', fun r m => s' r (s r m), ?_⟩
      have nv : valD (((zs.take i).filter t).map fun z => (Sum.inl (key z), dat z)) (Sum.inl (key zs[i])) = none := by
        rw [valD_rows, Option.map_eq_none_iff, List.find?_eq_none]
        intro r hr e
        have hr' := (List.mem_filter.mp hr).1
        have e' : key r = key zs[i] := of_decide_eq_true e
        have nd2 : ((zs.take (i + 1)).map key).Nodup := (nd.sublist ((List.take_sublist _ _).map key))
        rw [et, List.map_append, List.nodup_append] at nd2
        exact nd2.2.2 (key r) (List.mem_map_of_mem hr') (key zs[i]) (by simp) e'
      have e2 : ((zs.take (i + 1)).filter t).map (fun z => ((Sum.inl (key z) : Key), dat z)) = putD (((zs.take i).filter t).map fun z => (Sum.inl (key z), dat z)) (Sum.inl (key zs[i])) (dat zs[i]) := by
        rw [putD_new nv, et, List.filter_append, List.filter_cons, ty]; simp
      rw [e2]
      have q3 := o1 _ .head
      refine Own.sub (q3.setO (o := .dK (putK kvs (Sum.inl (key zs[i])) y)) (ob := .D (putD (((zs.take i).filter t).map fun z => (Sum.inl (key z), dat z)) (Sum.inl (key zs[i])) (dat zs[i]))) .head rfl fun M hp => ⟨putK kvs (Sum.inl (key zs[i])) y, upd_same, putK_fst hk _ _ _, ?_⟩) (Sb.refl _) (Ps.skip Ps.refl)
      exact (Dv.put (P := .dp (kvs.map Prod.snd) ((((zs.take i).filter t).map fun z => ((Sum.inl (key z) : Key), dat z)).map Prod.snd) :: P'') (Dv.of List.mem_cons_self) hk (fun M h => dv M fun q hq => h q (List.mem_cons_of_mem _ hq))) M hp
end
theorem walk_ints {K : PySem.W.Frag} {a : Addr} {ns : List Int} : Walk (Itl K a) ns.length (fun H => SqL K H a (ns.map V.int)) (YAt (ns.map V.int)) := by
  have w := walk_list (K := K) (a := a) (xs := ns.map V.int)
  rw [List.length_map] at w
  exact w
/-! ### sorted lists of ints -/
theorem sorted_eq : ∀ {xs ys : List Int}, xs.Perm ys → xs.Pairwise (· ≤ ·) → ys.Pairwise (· ≤ ·) → xs = ys
  | [], ys, p, _, _ => by
    have := p.length_eq
    simp at this
    exact (List.eq_nil_of_length_eq_zero this.symm).symm
  | x :: xs, [], p, _, _ => by
    have := p.length_eq
    simp at this
  | x :: xs, y :: ys, p, hx, hy => by
    have h1 := List.pairwise_cons.mp hx
    have h2 := List.pairwise_cons.mp hy
    have e : x = y := by
      have a : x ∈ y :: ys := p.mem_iff.mp List.mem_cons_self
      have b : y ∈ x :: xs := p.mem_iff.mpr List.mem_cons_self
      rcases List.mem_cons.mp a with a | a
      · exact a
      rcases List.mem_cons.mp b with b | b
      · exact b.symm
      · have := h1.1 y b
        have := h2.1 x a
        omega
    subst e
    rw [sorted_eq (List.Perm.cons_inv p) h1.2 h2.2]
/-- the rising list -/
def srt (xs : List Int) : List Int := xs.mergeSort (fun a b => decide (a ≤ b))
theorem srt_perm (xs : List Int) : (srt xs).Perm xs := List.mergeSort_perm _ _
theorem srt_pw (xs : List Int) : (srt xs).Pairwise (· ≤ ·) := by
  have := List.pairwise_mergeSort (le := fun a b : Int => decide (a ≤ b)) (fun a b c h1 h2 => by simp at h1 h2 ⊢; omega) (fun a b => by simp; omega) xs
  exact this.imp fun h => by simpa using h
theorem srt_of {xs ys : List Int} (p : ys.Perm xs) (h : ys.Pairwise (· ≤ ·)) : ys = srt xs := sorted_eq (p.trans (srt_perm xs).symm) h (srt_pw xs)
theorem srt_eq {xs ys : List Int} (p : xs.Perm ys) : srt xs = srt ys := sorted_eq ((srt_perm xs).trans (p.trans (srt_perm ys).symm)) (srt_pw _) (srt_pw _)
theorem srt_len (xs : List Int) : (srt xs).length = xs.length := (srt_perm xs).length_eq
theorem srt_mem {xs : List Int} {x : Int} : x ∈ srt xs ↔ x ∈ xs := (srt_perm xs).mem_iff
theorem srt_filter (xs : List Int) (p : Int → Bool) : (srt xs).filter p = srt (xs.filter p) := srt_of ((srt_perm xs).filter p) ((srt_pw xs).filter p)
theorem srt_rev {xs ys : List Int} (p : ys.Perm xs) (h : ys.Pairwise (· ≥ ·)) : ys = (srt xs).reverse := by
  have e : ys.reverse = srt xs := srt_of ((List.reverse_perm ys).trans p) (List.pairwise_reverse.mpr h)
  rw [← e, List.reverse_reverse]
/-! ### a dict beside an empty one -/
theorem op_dE {X : Cx} (hu : X.A.units < cLine) (op : CmpOp) (t : Bool → Bool) (hop : (op = .Eq ∧ t = id) ∨ (op = .NotEq ∧ t = not)) : OpR X (compareOp op) (fun x y H Q => ∃ (a b : Addr) (kvs : List (Key × V)), x = .ref a ∧ y = .ref b ∧ H a = some (.dK kvs) ∧ H b = some (.dK []) ∧ Q (.bl (t kvs.isEmpty)) H) := by
  intro pins s σ H x y v u Q I rx ry hh
  obtain ⟨a, b, kvs, rfl, rfl, e1, e2, q⟩ := hh
  have rx' : v = Value.ref a := rx
  have ry' : u = Value.ref b := ry
  subst rx' ry'
  obtain ⟨_, n1, v1, r1, d1⟩ := (show ObjOk X.prog X.w H s.heap a (.dK kvs) from I.hok a _ e1)
  obtain ⟨_, n2, v2, r2, d2⟩ := (show ObjOk X.prog X.w H s.heap b (.dK []) from I.hok b _ e2)
  have l2 : v2.length = 0 := by rw [← r2.length]; rfl
  have l1 : v1.length = kvs.length := r1.length.symm
  have hz : v1.length = v2.length → kvs = [] := fun e => List.eq_nil_of_length_eq_zero (by omega)
  have hh : v1.length = v2.length → PySem.W.KeqHits X.A.in1 s v2 v1 true := fun e => by
    have := hz e
    subst this
    exact hits_all r2 r1 (fun p hp => nomatch hp)
  have eb : (v1.length == v2.length && true) = kvs.isEmpty := by
    rw [l1, l2]
    cases kvs <;> simp
  rcases hop with ⟨rfl, rfl⟩ | ⟨rfl, rfl⟩
  · exact PySem.W.keq_eq (r := true) n1 n2 d1 d2 hu hh (fin_bl I q (by rw [eb]; rfl))
  · exact PySem.W.keq_ne (r := true) n1 n2 d1 d2 hu hh (fin_bl I q (by rw [eb]))
theorem op_neE {X : Cx} (hu : X.A.units + 64 < cLine) : OpR X (compareOp .NotEq) (fun x y H Q => ∃ (a b : Addr) (kvs : List (Key × V)), x = .ref a ∧ y = .ref b ∧ H a = some (.dK kvs) ∧ H b = some (.dK []) ∧ Q (.bl (!kvs.isEmpty)) H) := op_dE (by omega) .NotEq not (.inr ⟨rfl, rfl⟩)
/-! ### strictly rising lists -/
theorem ris_eq : ∀ {xs ys : List Int}, (∀ z, z ∈ xs ↔ z ∈ ys) → xs.Pairwise (· < ·) → ys.Pairwise (· < ·) → xs = ys
  | [], [], _, _, _ => rfl
  | [], y :: ys, h, _, _ => nomatch (h y).mpr List.mem_cons_self
  | x :: xs, [], h, _, _ => nomatch (h x).mp List.mem_cons_self
  | x :: xs, y :: ys, h, hx, hy => by
    have h1 := List.pairwise_cons.mp hx
    have h2 := List.pairwise_cons.mp hy
    have e : x = y := by
      rcases List.mem_cons.mp ((h x).mp List.mem_cons_self) with a | a
      · exact a
      rcases List.mem_cons.mp ((h y).mpr List.mem_cons_self) with b | b
      · exact b.symm
      · have := h1.1 y b
        have := h2.1 x a
        omega
    subst e
    refine congrArg (x :: ·) (ris_eq (fun z => ?_) h1.2 h2.2)
    have := h z
    simp only [List.mem_cons] at this
    constructor
    · intro hz
      rcases this.mp (.inr hz) with e | e
      · have := h1.1 z hz; omega
      · exact e
    · intro hz
      rcases this.mpr (.inr hz) with e | e
      · have := h2.1 z hz; omega
      · exact e
/-- put in where it belongs, unless it is there -/
def insU (x : Int) : List Int → List Int
  | [] => [x]
  | y :: ys => if x < y then x :: y :: ys else if x = y then y :: ys else y :: insU x ys
/-- each once, rising -/
def uq (xs : List Int) : List Int := xs.foldr insU []
theorem insU_mem {x z : Int} : ∀ {l : List Int}, z ∈ insU x l ↔ z = x ∨ z ∈ l
  | [] => by simp [insU]
  | y :: ys => by
    unfold insU
    split
    · simp
    · split
      · rename_i h; subst h; simp
      · simp [insU_mem (l := ys)]
        constructor
        · rintro (h | h | h) <;> simp [h]
        · rintro (h | h | h) <;> simp [h]
theorem insU_pw {x : Int} : ∀ {l : List Int}, l.Pairwise (· < ·) → (insU x l).Pairwise (· < ·)
  | [], _ => by simp [insU]
  | y :: ys, h => by
    have h1 := List.pairwise_cons.mp h
    unfold insU
    split
    · rename_i hl
      refine List.pairwise_cons.mpr ⟨fun z hz => ?_, h⟩
      rcases List.mem_cons.mp hz with rfl | hz
      · exact hl
      · have := h1.1 z hz; omega
    · split
      · exact h
      · refine List.pairwise_cons.mpr ⟨fun z hz => ?_, insU_pw h1.2⟩
        rcases insU_mem.mp hz with rfl | hz
        · omega
        · exact h1.1 z hz
theorem uq_mem {xs : List Int} {z : Int} : z ∈ uq xs ↔ z ∈ xs := by
  induction xs with
  | nil => simp [uq]
  | cons x xs ih => simp only [uq, List.foldr_cons] at ih ⊢; rw [insU_mem, ih, List.mem_cons]
theorem uq_pw (xs : List Int) : (uq xs).Pairwise (· < ·) := by
  induction xs with
  | nil => simp [uq]
  | cons x xs ih => exact insU_pw ih
theorem uq_of {xs ys : List Int} (h : ys.Pairwise (· < ·)) (k : ∀ z, z ∈ ys ↔ z ∈ xs) : ys = uq xs := ris_eq (fun z => by rw [k, uq_mem]) h (uq_pw xs)
theorem insU_len (x : Int) : ∀ l : List Int, (insU x l).length ≤ l.length + 1
  | [] => by simp [insU]
  | y :: ys => by
    have := insU_len x ys
    unfold insU
    split
    · simp
    · split <;> simp <;> omega
theorem uq_len (xs : List Int) : (uq xs).length ≤ xs.length := by
  induction xs with
  | nil => simp [uq]
  | cons x xs ih =>
    simp only [uq, List.foldr_cons, List.length_cons] at ih ⊢
    exact Nat.le_trans (insU_len _ _) (by omega)
end Hx

set_option Elab.async false
set_option linter.all false
set_option maxRecDepth 100000
set_option maxHeartbeats 4000000
/-! enumerate(xs, start=k) over a list or a tuple; lists sifted out of a walk, their items data -/
namespace Hx
open PySem PySem.Spec PyProof.Rows L2
theorem callWith_typeK {M : Model} {A : Around} {E : Value → Shared → Prop} {s : Shared} {env : Env} {pos : Pos} {T : String} {e : Expr} {rest : List Expr} {kws : List Keyword} {Q : Value → Shared → Prop}
    (h : wpAny M A (spliced (backTo pos (starEach (e :: rest) env))) (fun vs s₁ => wpAny M A (evalAll ((backToKw pos (keywordEach kws env)).map (·.2)))
      (fun kvs s₂ => wpAny M A (call (.type T) vs (((backToKw pos (keywordEach kws env)).filterMap (·.1)).zip kvs)) Q E s₂) E s₁) E s)
    (he : backTo pos (starEach (e :: rest) env) = (false, eval e env) :: backTo pos (starEach rest env) := by rfl)
    (hplain : (backTo pos (starEach (e :: rest) env)).any (·.1) = false := by rfl)
    (hall : (backToKw pos (keywordEach kws env)).all (·.1.isSome) = true := by rfl)
    (hkw : (backToKw pos (keywordEach kws env)).any (·.1.isNone) = false := by rfl) :
    wpAny M A (callWith pos (.type T) [] (backTo pos (starEach (e :: rest) env)) (backToKw pos (keywordEach kws env))) Q E s := by
  have h2 : wpAny M A (evalArgs (.type T) true (backTo pos (starEach (e :: rest) env)) (backToKw pos (keywordEach kws env))) (fun a s₁ => wpAny M A (call (.type T) ([] ++ a.pos) a.kw) Q E s₁) E s := by
    rw [he] at h ⊢
    exact evalArgs_kwB hall h
  unfold callWith
  refine wpAny_bind (wpAny_holding (wpAny_mono h2 (fun a s₁ h₁ => wpAny_bind (wpAny_standAt ?_)) fun _ _ x => x))
  simp only [hplain, hkw, Bool.or_false]
  refine wpAny_bind (wpAny_pure ?_)
  exact wpAny_bind (wpAny_mono h₁ (fun r s₂ hr => wpAny_bind (wpAny_holding (wpAny_point (wpAny_pure hr)))) fun _ _ x => x)
/-- the list, the tuple, at a, each item in a new pair, counted from k -/
def IteS (K : PySem.W.Frag) (a : Addr) (k : Int) : It :=
  ⟨fun i H => ∃ (xs : List V) (x : V), SqL K H a xs ∧ xs[i]? = some x, fun i H v H' => ∃ T x, v = .ref T ∧ H T = none ∧ H' = upd H T (.tup [.int (k + (i : Nat)), x]) ∧ ∀ xs, SqL K H a xs → xs[i]? = some x, fun i H => ∃ xs : List V, SqL K H a xs ∧ xs.length = i⟩
def IteT (K : PySem.W.Frag) (a : Addr) (k : Int) : It :=
  ⟨fun i H => ∃ (xs : List V) (x : V), SqT K H a xs ∧ xs[i]? = some x, fun i H v H' => ∃ T x, v = .ref T ∧ H T = none ∧ H' = upd H T (.tup [.int (k + (i : Nat)), x]) ∧ ∀ xs, SqT K H a xs → xs[i]? = some x, fun i H => ∃ xs : List V, SqT K H a xs ∧ xs.length = i⟩
theorem walk_enumS {K : PySem.W.Frag} {a : Addr} {k : Int} {xs : List V} : Walk (IteS K a k) xs.length (fun H => SqL K H a xs) (YPair (fun i => some (.int (k + (i : Nat)))) (fun i => xs[i]?)) := by
  refine ⟨fun i _ hi q => ⟨xs, xs[i], q, by simp [hi]⟩, fun _ q => ⟨xs, q, rfl⟩, fun i H v H' _ q y => ?_⟩
  obtain ⟨T, x, h1, h2, h3, h4⟩ := y
  exact ⟨T, _, x, h1, h2, h3, rfl, h4 xs q⟩
theorem walk_enumT {K : PySem.W.Frag} {a : Addr} {k : Int} {xs : List V} : Walk (IteT K a k) xs.length (fun H => SqT K H a xs) (YPair (fun i => some (.int (k + (i : Nat)))) (fun i => xs[i]?)) := by
  refine ⟨fun i _ hi q => ⟨xs, xs[i], q, by simp [hi]⟩, fun _ q => ⟨xs, q, rfl⟩, fun i H v H' _ q y => ?_⟩
  obtain ⟨T, x, h1, h2, h3, h4⟩ := y
  exact ⟨T, _, x, h1, h2, h3, rfl, h4 xs q⟩
section
variable {P : Program} {w : World} {K : PySem.W.Frag} {elts : List Expr} {kk : Nat} {tpos : Pos}
theorem turn_enumS (a e it : Addr) (k : Int) :
    Turn P w K (.Tuple elts kk tpos) (IteS K a k) [e, it] e (fun i h => (∃ old, IsEnum h e it (k + ((i : Nat) : Int)) old) ∧ h.IsListIter it a i ∧ e ≠ it ∧ a ≠ it ∧ a ≠ e) where
  mem := by simp
  obj := fun i h st b hb => by
    obtain ⟨⟨old, he⟩, ⟨o, ho, hc, hd⟩, _⟩ := st
    have e' : b = e ∨ b = it := by simpa using hb
    rcases e' with z | z
    · rw [z]; exact ⟨_, he, fun v q => nomatch q⟩
    · rw [z]; exact ⟨o, ho, fun v q => by rw [hd] at q; cases q⟩
  keep := fun i h h' st k => let ⟨⟨old, he⟩, hi, hne⟩ := st; ⟨⟨old, k e (by simp) _ he⟩, hi.at fun o q => k it (by simp) o q, hne⟩
  item := by
    intro X hP hw hK hc i pins s σ H E I hf st hg
    subst hP hw hK
    obtain ⟨⟨old, he⟩, hit, hne, hai, hae⟩ := st
    obtain ⟨xs, x, hq, hx⟩ := hg
    obtain ⟨its, rv, p, hz⟩ := I.list hq
    obtain ⟨u, hu, ru⟩ := rv.get hx
    have hel : e < s.heap.objs.size := Heap.lt_size he
    have hil : it < s.heap.objs.size := by obtain ⟨_, q, _⟩ := hit; exact Heap.lt_size q
    have hlt : i < its.toArray.size := by simpa using (List.getElem?_eq_some_iff.mp hu).1
    refine wpAny_pyNext_enum_itemC (Draws.list (show X.A.in1.handled = none from I.ok.hd hc) it a hai its.toArray) he ⟨hit, p.isList⟩ hlt hne (by simp [hne, Ne.symm hae]) fun x' h' tk hP' ho hit' hT hsz hk => ?_
    obtain rfl : x' = u := by
      have h1 : its.toArray[i]? = some x' := hP'
      have h2 : its.toArray[i]? = some u := by simpa using hu
      rw [h1] at h2
      exact Option.some.inj h2
    refine ⟨_, rfl, wpAny_letOwnedTupleGo_enum (s := { s with heap := h', toks := tk + 1 }) ho fun h'' he' sb => ?_⟩
    have hT2 : h''.get? s.heap.objs.size = some { cls := .type "tuple", data := .seq #[.int (k + ((i : Nat) : Int)) tk, x'] } := (sb.2 _ (Nat.ne_of_gt hel)).trans hT
    have new : ObjOk X.prog X.w (upd H s.heap.objs.size (.tup [.int (k + (i : Nat)), x])) h'' s.heap.objs.size (.tup [.int (k + (i : Nat)), x]) :=
      ⟨by show 2 ≤ sizeLine; decide, [.int (k + ((i : Nat) : Int)) tk, x'], .cons ⟨_, rfl⟩ (.cons ru .nil), ⟨_, hT2, rfl, _, rfl⟩⟩
    have I1 : Inv X pins σ (upd H s.heap.objs.size (.tup [.int (k + (i : Nat)), x])) { s with heap := h'', toks := tk + 1 } :=
      I.turnedNew (ch := [e, it]) (fun b ob hb q => (sb.2 b (fun z => hb (by simp [z]))).trans (hk b ob (fun z => hb (by simp [z])) (fun z => hb (by simp [z])) q)) hf (Nat.le_refl _) new
    refine ⟨.ref s.heap.objs.size, _, I1, rfl, ⟨_, x, rfl, I.hok.fresh (Nat.le_refl _), rfl, fun ys hy => by rw [I.list_inj hy hq]; exact hx⟩, ⟨⟨x', ?_⟩, hit'.1.at fun o q => (sb.2 it (Ne.symm hne)).trans q, hne, hai, hae⟩, fun b hb => ?_⟩
    · have e1 : k + ((i + 1 : Nat) : Int) = k + (i : Int) + 1 := by omega
      rw [e1]; exact he'
    · have hb' : b < s.heap.objs.size := by
        have e' : b = e ∨ b = it := by simpa using hb
        rcases e' with z | z
        · rw [z]; exact hel
        · rw [z]; exact hil
      rw [upd_ne (Nat.ne_of_lt hb')]
      exact (hf b hb).1
  done := by
    intro X hP hw hK hc i pins s σ H E I hf st hg
    subst hP hw hK
    obtain ⟨⟨old, he⟩, hit, hne, hai, hae⟩ := st
    obtain ⟨xs, hq, hx⟩ := hg
    obtain ⟨its, rv, p, hz⟩ := I.list hq
    obtain ⟨f0, f1, f2, f3, f4, f5⟩ := hf it (by simp)
    have hl := rv.length
    have hn : i = its.toArray.size := by simp; omega
    subst hn
    exact wpAny_pyNext_enum_endD (Draws.list (show X.A.in1.handled = none from I.ok.hd hc) it a hai its.toArray) he ⟨hit, p.isList⟩ fun h' eb => ⟨rfl, I.turned (t' := s.toks) (fun b o hb q => eb b o hb q) f0 f1 f3 f4 f5⟩
  self := fun A i s Q E st h => let ⟨⟨_, he⟩, _⟩ := st; wpAny_pyIter_enum he h
theorem turn_enumT (a e it : Addr) (k : Int) :
    Turn P w K (.Tuple elts kk tpos) (IteT K a k) [e, it] e (fun i h => (∃ old, IsEnum h e it (k + ((i : Nat) : Int)) old) ∧ h.IsTupleIter it a i ∧ e ≠ it ∧ a ≠ it ∧ a ≠ e) where
  mem := by simp
  obj := fun i h st b hb => by
    obtain ⟨⟨old, he⟩, ⟨o, ho, hc, hd⟩, _⟩ := st
    have e' : b = e ∨ b = it := by simpa using hb
    rcases e' with z | z
    · rw [z]; exact ⟨_, he, fun v q => nomatch q⟩
    · rw [z]; exact ⟨o, ho, fun v q => by rw [hd] at q; cases q⟩
  keep := fun i h h' st k => let ⟨⟨old, he⟩, hi, hne⟩ := st; ⟨⟨old, k e (by simp) _ he⟩, hi.at fun o q => k it (by simp) o q, hne⟩
  item := by
    intro X hP hw hK hc i pins s σ H E I hf st hg
    subst hP hw hK
    obtain ⟨⟨old, he⟩, hit, hne, hai, hae⟩ := st
    obtain ⟨xs, x, hq, hx⟩ := hg
    obtain ⟨its, rv, p, hz⟩ := I.tuple hq
    obtain ⟨u, hu, ru⟩ := rv.get hx
    have hel : e < s.heap.objs.size := Heap.lt_size he
    have hil : it < s.heap.objs.size := by obtain ⟨_, q, _⟩ := hit; exact Heap.lt_size q
    have hlt : i < its.toArray.size := by simpa using (List.getElem?_eq_some_iff.mp hu).1
    refine wpAny_pyNext_enum_itemC (Draws.tuple (show X.A.in1.handled = none from I.ok.hd hc) it a hai its.toArray) he ⟨hit, p⟩ hlt hne (by simp [hne, Ne.symm hae]) fun x' h' tk hP' ho hit' hT hsz hk => ?_
    obtain rfl : x' = u := by
      have h1 : its.toArray[i]? = some x' := hP'
      have h2 : its.toArray[i]? = some u := by simpa using hu
      rw [h1] at h2
      exact Option.some.inj h2
    refine ⟨_, rfl, wpAny_letOwnedTupleGo_enum (s := { s with heap := h', toks := tk + 1 }) ho fun h'' he' sb => ?_⟩
    have hT2 : h''.get? s.heap.objs.size = some { cls := .type "tuple", data := .seq #[.int (k + ((i : Nat) : Int)) tk, x'] } := (sb.2 _ (Nat.ne_of_gt hel)).trans hT
    have new : ObjOk X.prog X.w (upd H s.heap.objs.size (.tup [.int (k + (i : Nat)), x])) h'' s.heap.objs.size (.tup [.int (k + (i : Nat)), x]) :=
      ⟨by show 2 ≤ sizeLine; decide, [.int (k + ((i : Nat) : Int)) tk, x'], .cons ⟨_, rfl⟩ (.cons ru .nil), ⟨_, hT2, rfl, _, rfl⟩⟩
    have I1 : Inv X pins σ (upd H s.heap.objs.size (.tup [.int (k + (i : Nat)), x])) { s with heap := h'', toks := tk + 1 } :=
      I.turnedNew (ch := [e, it]) (fun b ob hb q => (sb.2 b (fun z => hb (by simp [z]))).trans (hk b ob (fun z => hb (by simp [z])) (fun z => hb (by simp [z])) q)) hf (Nat.le_refl _) new
    refine ⟨.ref s.heap.objs.size, _, I1, rfl, ⟨_, x, rfl, I.hok.fresh (Nat.le_refl _), rfl, fun ys hy => by rw [I.tuple_inj hy hq]; exact hx⟩, ⟨⟨x', ?_⟩, hit'.1.at fun o q => (sb.2 it (Ne.symm hne)).trans q, hne, hai, hae⟩, fun b hb => ?_⟩
    · have e1 : k + ((i + 1 : Nat) : Int) = k + (i : Int) + 1 := by omega
      rw [e1]; exact he'
    · have hb' : b < s.heap.objs.size := by
        have e' : b = e ∨ b = it := by simpa using hb
        rcases e' with z | z
        · rw [z]; exact hel
        · rw [z]; exact hil
      rw [upd_ne (Nat.ne_of_lt hb')]
      exact (hf b hb).1
  done := by
    intro X hP hw hK hc i pins s σ H E I hf st hg
    subst hP hw hK
    obtain ⟨⟨old, he⟩, hit, hne, hai, hae⟩ := st
    obtain ⟨xs, hq, hx⟩ := hg
    obtain ⟨its, rv, p, hz⟩ := I.tuple hq
    obtain ⟨f0, f1, f2, f3, f4, f5⟩ := hf it (by simp)
    have hl := rv.length
    have hn : i = its.toArray.size := by simp; omega
    subst hn
    exact wpAny_pyNext_enum_endD (Draws.tuple (show X.A.in1.handled = none from I.ok.hd hc) it a hai its.toArray) he ⟨hit, p⟩ fun h' eb => ⟨rfl, I.turned (t' := s.toks) (fun b o hb q => eb b o hb q) f0 f1 f3 f4 f5⟩
  self := fun A i s Q E st h => let ⟨⟨_, he⟩, _⟩ := st; wpAny_pyIter_enum he h
def iEnumS (K : PySem.W.Frag) (ta tk : TA) : TI := fun σ H R => ta σ H fun vs H1 => tk σ H1 fun zs H2 => ∃ a xs k, vs = [.ref a] ∧ zs = [.int k] ∧ -(2 ^ 62) ≤ k ∧ k < 2 ^ 62 ∧ ((SqL K H2 a xs ∧ R (IteS K a k) H2) ∨ (SqT K H2 a xs ∧ R (IteT K a k) H2))
theorem pi_enumS {X : Cx} {e : Expr} {ta tk : TA} {kws : List Keyword} {p pos tpos : Pos} {elts : List Expr} {kk : Nat} (hg : Gl X "enumerate") (hm : X.mg "enumerate" = none) (ha : PA X [e] ta) (hkw : PK X kws tk)
    (he : backTo pos (starEach (e :: []) X.env) = (false, eval e X.env) :: backTo pos (starEach [] X.env) := by rfl) (hpl : (backTo pos (starEach (e :: []) X.env)).any (·.1) = false := by rfl)
    (hall : (backToKw pos (keywordEach kws X.env)).all (·.1.isSome) = true := by rfl) (hnone : (backToKw pos (keywordEach kws X.env)).any (·.1.isNone) = false := by rfl) (hks : (backToKw pos (keywordEach kws X.env)).filterMap (·.1) = [Str.ofString "start"] := by rfl) :
    PI X (.Tuple elts kk tpos) (.Call (.Name "enumerate" p) [e] kws pos) (iEnumS X.K ta tk) := by
  refine ⟨fun pins s σ H R I h => ?_⟩
  refine wpAny_Call_Name_kw (ld_blt I hg hm boot_enumerate ?_)
  refine callWith_typeK (thn (ha.run pos pins s σ H _ I h) fun us s1 ⟨vs, H1, I1, r1, q1⟩ => thn (hkw.run pos pins s1 σ H1 _ I1 q1) fun ws s2 ⟨zs, H2, I2, r2, q2⟩ => ?_) he hpl hall hnone
  rw [hks]
  obtain ⟨a, xs, k, ex, ez, k0, k1, hq⟩ := q2
  subst ex ez
  have wk : -(2 ^ 63) ≤ k ∧ k < 2 ^ 63 := by omega
  cases r2 with
  | cons rz rr2 =>
  cases rr2
  obtain ⟨t, rfl⟩ := rz
  cases r1 with
  | cons r rr =>
    cases rr
    cases r
    have hle : ∀ b, b = s2.heap.objs.size + 1 ∨ b = s2.heap.objs.size → s2.heap.objs.size ≤ b := fun b e => by
      rcases e with z | z
      · rw [z]; exact Nat.le_add_right _ _
      · rw [z]; exact Nat.le_refl _
    rcases hq with ⟨hq, q⟩ | ⟨hq, q⟩
    · obtain ⟨its, rv, p', hz⟩ := I2.list hq
      have la : a < s2.heap.objs.size := p'.lt
      refine enum_begins_start (begins_list a its.toArray) p'.isList wk.1 wk.2 fun h' he hit hsz hk => wpAny_pyIter_enum he ?_
      have I3 : L2.Inv X pins σ H2 { s2 with heap := h' } := I2.kept (t' := s2.toks) hk
      refine ⟨s2.heap.objs.size + 1, [s2.heap.objs.size + 1, s2.heap.objs.size], _, _, H2, rfl, I3, turn_enumS a (s2.heap.objs.size + 1) s2.heap.objs.size k, ⟨⟨.none, by simpa using he⟩, ⟨_, hit, rfl, rfl⟩, Nat.succ_ne_self _, Nat.ne_of_lt la, fun z => by rw [z] at la; exact absurd la (Nat.not_lt.mpr (Nat.le_succ _))⟩, fun b hb => ?_, q⟩
      have := hle b (by simpa using hb)
      exact I2.fpOk this (I2.hok.fresh this)
    · obtain ⟨its, rv, p', hz⟩ := I2.tuple hq
      have la : a < s2.heap.objs.size := by obtain ⟨o, e, _⟩ := p'; exact Heap.lt_size e
      refine enum_begins_start (begins_tuple a its.toArray) p' wk.1 wk.2 fun h' he hit hsz hk => wpAny_pyIter_enum he ?_
      have I3 : L2.Inv X pins σ H2 { s2 with heap := h' } := I2.kept (t' := s2.toks) hk
      refine ⟨s2.heap.objs.size + 1, [s2.heap.objs.size + 1, s2.heap.objs.size], _, _, H2, rfl, I3, turn_enumT a (s2.heap.objs.size + 1) s2.heap.objs.size k, ⟨⟨.none, by simpa using he⟩, ⟨_, hit, rfl, rfl⟩, Nat.succ_ne_self _, Nat.ne_of_lt la, fun z => by rw [z] at la; exact absurd la (Nat.not_lt.mpr (Nat.le_succ _))⟩, fun b hb => ?_, q⟩
      have := hle b (by simpa using hb)
      exact I2.fpOk this (I2.hok.fresh this)
end
section
variable {K : PySem.W.Frag} {H1 : Hp} {L : List (Addr × Ob)} {P : List Pf}
variable {g : TG} {te : TE} {tt : TT} {wv : List Nat} {σ : L2.St} {D : Addr} {Qd : Hp → Prop}
/-- sifted: of those of zs that t takes, data -/
theorem lc_siftD {α : Type} {J : It} {G : Hp → Prop} {Y : Nat → Hp → V → Hp → Prop} (zs : List α) (dat : α → PyData) (t : α → Bool) (w : Walk J zs.length G Y) (h : Own K H1 L P) (hD : H1 D = none) (hz : zs.length ≤ 10000)
    (ha : ∀ (H : Hp) (L' : List (Addr × Ob)) (P' : List Pf), (∀ p ∈ L, p ∈ L') → Ps P P' → Own K H L' P' → G H)
    (hs : ∀ (i : Nat) (z : α) (x : V) (H H' : Hp) (P' : List Pf) (ds : List PyData) (Qn : Hp → Prop) (Qy : VK), zs[i]? = some z → Y i H x H' → Ps P P' → Own K H ((D, .L ds) :: L) P' →
      (t z = false → ∀ (H'' : Hp) (P'' : List Pf), Ps P' P'' → Own K H'' ((D, .L ds) :: L) P'' → Qn H'') →
      (t z = true → ∀ (y : V) (H'' : Hp) (P'' : List Pf), Ps P' P'' → Own K H'' ((D, .L ds) :: L) P'' → Dv1 K P'' y (dat z) → Qy y H'') → g x (wipe σ wv) H' fun σ2 H2 => wipe σ2 wv = wipe σ wv ∧ tt σ2 H2 fun b H3 => if b = true then te σ2 H3 Qy else Qn H3)
    (hd : ∀ (H' : Hp) (P' : List Pf), Ps P P' → Own K H' ((D, .L ((zs.filter t).map dat)) :: L) P' → Qd H') :
    ∃ W : Nat → Nat → Hp → Prop, (∃ m, W 0 m (upd H1 D (.lst []))) ∧ ∀ i m H, W i m H →
      (J.stop i H ∧ Qd H) ∨ (J.go i H ∧ ∃ Nx : Hp → Prop, (∀ H', Nx H' → ∃ m', m' < m ∧ W (i + 1) m' H') ∧ ∀ x H', J.yld i H x H' → g x (wipe σ wv) H' fun σ2 H2 => wipe σ2 wv = wipe σ wv ∧ tt σ2 H2 fun b H3 =>
        if b = true then te σ2 H3 fun y H4 => ∃ acc, H4 D = some (.lst acc) ∧ acc.length < sizeLine ∧ Nx (upd H4 D (.lst (acc ++ [y]))) else Nx H3) := by
  refine lc_it w (fun i H => ∃ P', Ps P P' ∧ Own K H ((D, .L (((zs.take i).filter t).map dat)) :: L) P') ⟨P, Ps.refl, ?_⟩ (fun i H _ ⟨P', s, q⟩ => ha H _ P' (fun p m => List.mem_cons_of_mem _ m) s q) (fun i x H H' hi ⟨P', s, q⟩ y => ?_) (fun H ⟨P', s, q⟩ => hd H P' s (by rw [List.take_of_length_le (Nat.le_refl _)] at q; exact q))
  · have h2 := h.new hD (o := .lst []) rfl
    exact h2.closeL (vs := []) List.mem_cons_self (by rw [List.take_zero]; exact Dv.nil) .head
  · have et : zs.take (i + 1) = zs.take i ++ [zs[i]] := by rw [List.take_add_one, List.getElem?_eq_getElem hi]; rfl
    refine hs i zs[i] x H H' P' _ _ _ (List.getElem?_eq_getElem hi) y s q (fun tn H'' P'' s' q' => ⟨P'', fun r m => s' r (s r m), ?_⟩) (fun ty y H'' P'' s' q' dv => ?_)
    · rw [et, List.filter_append, List.filter_cons, tn]; simpa using q'
    · obtain ⟨vs, ev, dvs⟩ := q'.lst List.mem_cons_self
      have len := dvs.len
      have hlen : vs.length ≤ 10000 := by
        rw [len, List.length_map]
        exact Nat.le_trans (List.length_filter_le _ _) (by rw [List.length_take]; omega)
      refine ⟨vs, ev, size_lt hlen, P'', fun r m => s' r (s r m), ?_⟩
      have e2 : ((zs.take (i + 1)).filter t).map dat = ((zs.take i).filter t).map dat ++ [dat zs[i]] := by rw [et, List.filter_append, List.filter_cons, ty]; simp
      rw [e2]
      exact own_app (i := i) q' ev dv
end
end Hx

set_option Elab.async false
set_option linter.all false
set_option maxRecDepth 100000
set_option maxHeartbeats 4000000
/-! != by an own __eq__: object.__ne__ asks it and turns its answer -/
namespace Hx
open PySem PySem.Spec PyProof.Rows L2 PySem.W
section
variable {prog : Program} {w : World} {A : Around} {E : Value → Shared → Prop} {s : Shared} {K : Frag} {x C L f : Addr} {h₀ : Heap} {m : Str → Option Value} {ox : Obj} {od : Option Obj} {name : Str} {b tb : Value}
theorem one_bind (self : Value) : bindSpecial (.builtin "object.__ne__") self = pure (.builtin "object.__ne__", [self]) :=
  (Slot.of (T := "object") (name := "__ne__") (owner := "object") (n := "__ne__") (by rw [typeLookup_type, builtinLookup_eq_fast]; kernel_rfl) (by decide +kernel) (by decide +kernel) (by decide +kernel)
    (.inl (by decide +kernel)) (by rw [isSubtype_type]; kernel_rfl)).bind self
theorem ifBound_B {M : Model} {id : String} {args : List Value} {Q : Option Value → Shared → Prop} (X : K.In s.heap) (I : InstAt s.heap x ox C od) (hs : findIn K (.ref C) name = some (some (.builtin id))) (hb : ∀ self, bindSpecial (.builtin id) self = pure (.builtin id, [self]))
    (h : wpAny M A (call (.builtin id) (.ref x :: args)) (fun v => Q (some v)) E s) : wpAny M A (callSpecialIfBound? (.ref x) name args) Q E s := by
  simp only [callSpecialIfBound?, bindSpecialIfBound?]
  refine wpAny_holding (wpAny_bind (wpAny_bind (wpAny_bind (I.type.here ((looks_findIn X hs).here ?_)))))
  refine wpAny_bind (wpAny_askSetting (wpAny_ite ?_))
  have fin : wpAny M A (call (.builtin id) ([.ref x] ++ args) >>= fun v => pure (some v)) Q E s := wpAny_bind (wpAny_mono h (fun v s' h' => wpAny_pure h') fun _ _ h' => h')
  split
  · rw [hb]; exact wpAny_bind (wpAny_pure (wpAny_pure fin))
  · rw [hb]; exact wpAny_tryCatch (wpAny_bind (wpAny_pure (wpAny_pure fin)))
theorem check_ne (X : K.In s.heap) (I : InstAt s.heap x ox C od) (ho : subIn K (.ref C) (.type "object") = some true) {Q : Unit → Shared → Prop} (hq : Q () s) :
    wpAny (model prog w) A (checkBuiltinCall "object.__ne__" ⟨[.ref x, b], []⟩) Q E s := by
  have ha := PySem.F.cmpArgs_ne (.ref x) b
  simp only [checkBuiltinCall, PySem.F.cmpKind_ne, PySem.F.cmpSplit_ne]
  refine wpAny_bind ?_
  unfold isInstance
  refine wpAny_bind (I.type.here ((looks_subIn X ho).here ?_))
  simp only [Bool.not_true, Bool.false_eq_true, if_false]
  cases hsig : Manifest.signature? "object.__ne__" with
  | none => exact wpAny_pure hq
  | some sig =>
    simp only [argsOk, hsig] at ha
    have h2 : Bind.checkArgs "object.__ne__" sig ⟨[.ref x, b], []⟩ = pure () := ha
    show wpAny _ _ (Bind.checkArgs "object.__ne__" sig ⟨[.ref x, b], []⟩) Q E _
    rw [h2]; exact wpAny_pure hq
theorem ne_K {Q : Value → Shared → Prop} (hu : A.units + 1 < cLine) (F : Fr h₀ L s.heap m) (X₀ : K.In h₀) (I : InstAt s.heap x ox C od) (hb : Looks (model prog w) s.heap (typeOf b) tb) (hn : notFirst K C tb = true)
    (hs : findIn K (.ref C) "__eq__" = some (some (.ref f))) (hf : isFn K (.ref f) = true) (hne : findIn K (.ref C) "__ne__" = some (some (.builtin "object.__ne__"))) (ho : subIn K (.ref C) (.type "object") = some true)
    (h : wpAny (model prog w) A.in1 (call (.ref f) [.ref x, b]) (fun v s' => ∃ c : Bool, v = .bool c ∧ Q (.bool (!c)) s') E s) : wpAny (model prog w) A (richCompare .NotEq (.ref x) b) Q E s := by
  have X := X₀.keeps F.keep
  have one : wpAny (model prog w) A (tryCompare (.ref x) "__ne__" b) (fun r s' => ∃ v, r = some v ∧ Q v s') E s := by
    unfold tryCompare
    refine wpAny_bind (ifBound_B X I hne one_bind ?_)
    refine wpAny_call (codeAny_call_builtin (by decide +kernel) PySem.F.cmpEntry_ne (check_ne X I ho ?_))
    unfold Builtin.«object.__ne__»
    refine wpAny_bind (wpAny_of_eq (a := ((Value.ref x : Value), [b])) (by first | rfl | (simp only [slotArgs]; rfl)) ?_)
    refine wpAny_bind (wpAny_cRoomFor hu ?_)
    refine wpAny_bind (ifBound_K X I hs hf (wpAny_mono h (fun v s' hv => ?_) fun _ _ e => e))
    obtain ⟨c, rfl, hq⟩ := hv
    exact wpAny_bind (wpAny_pure (wpAny_pure (wpAny_pure ⟨_, rfl, hq⟩)))
  unfold richCompare
  simp only [oneThing_ref]
  refine wpAny_holding (wpAny_bind (wpAny_cRoomFor (by omega) ?_))
  refine wpAny_bind (I.type.here (wpAny_bind (hb.here ?_)))
  split
  · rename_i q
    have e : subIn K tb (.ref C) = some false := by
      rcases Bool.or_eq_true_iff.mp hn with e | e
      · rw [beq_iff_eq.mp e] at q; simp at q
      · exact beq_iff_eq.mp e
    refine wpAny_bind ((looks_subIn X e).here ?_)
    simp only [Bool.false_eq_true, if_false]
    refine wpAny_bind (wpAny_mono one (fun r s' z => ?_) fun _ _ e => e)
    obtain ⟨v, rfl, hq⟩ := z
    exact wpAny_pure hq
  · refine wpAny_bind (wpAny_pure ?_)
    simp only [Bool.false_eq_true, if_false]
    refine wpAny_bind (wpAny_mono one (fun r s' z => ?_) fun _ _ e => e)
    obtain ⟨v, rfl, hq⟩ := z
    exact wpAny_pure hq
end
/-- the walker stops at the operator -/
theorem op_stop {X : Cx} {f : Value → Value → Sem Value} {r : R2} (h : OpR X f r) : OpR X f (fun x y H Q => Stop (r x y H Q)) := fun pins s σ H x y v u Q I rx ry q => h pins s σ H x y v u Q I rx ry q.h
/-- what a look-up with something else hands back, by a fact of the context -/
structure EqV (a b : V) : Prop where
  h : a = b
def tDGet2E (td ty tx : TE) : TE := fun σ H Q => td σ H fun x H1 => ∃ a, x = .ref a ∧ IsD H1 a ∧ ty σ H1 fun y H2 => tx σ H2 fun z H3 => ∃ (o : Option V) (w : V), DGet H3 a y o ∧ EqV (o.getD z) w ∧ Q w H3
theorem pe_dget2E {X : Cx} {o e f : Expr} {td ty tx : TE} {apos cpos : Pos} (hu : X.A.units + 1 < cLine) (ho : PE X o td) (he : PE X e ty) (hf : PE X f tx) (m : M2 X o "get" apos e f cpos) : PE X (.Call (.Attribute o "get" apos) [e, f] [] cpos) (tDGet2E td ty tx) := by
  refine ⟨fun pins s σ H Q I h => ?_⟩
  refine wpAny_Call_method m.base m.few m.line PySem.F.plainAttrs_dict PySem.F.slot_dict_get PySem.F.type_dict_get (thn (ho.run pins s σ H _ I h) fun u s1 ⟨x, H1, I1, rx, a, ex, d, q1⟩ => ?_)
  subst ex
  obtain rfl : u = Value.ref a := rx
  obtain ⟨t1, t2, _⟩ := isD_at I1 d
  refine ⟨t1, t2, ?_⟩
  rw [m.trees]
  refine Calls.callWith_builtin rfl (Calls.evalArgs_plain (Calls.spliced_cons (thn (he.run pins s1 σ H1 _ I1 q1) fun iv s2 ⟨y, H2, I2, ry, q2⟩ =>
    Calls.spliced_cons (thn (hf.run pins s2 σ H2 _ I2 q2) fun fv s3 ⟨z, H3, I3, rz, ov, wv, g, ⟨e⟩, q3⟩ => Calls.spliced_nil ?_))))
  subst e
  exact d_get2 hu I3 g ry rz fun w' s4 I4 rw' => ⟨_, H3, I4, rw', q3⟩
section
variable {X : Cx} {n : Nat} {C f : Addr} {fd : FuncData} {ps : List Str} {sp : Sp}
/-- the call of __eq__ within object.__ne__ -/
theorem ne_call (F : FnOk X.prog X.w X.K X.mg X.base CX0 n f fd ps sp) (hr : Room (n + 1) X.A) (hb : Binds X.K fd ps []) {pins : List (Addr × Obj)} {s : Shared} {σ : L2.St} {H : Hp} (I : L2.Inv X pins σ H s) {a b : Addr} {Q : VK}
    (hsp : sp [.ref a, .ref b] H (fun v H' => ∃ c, v = .bl c ∧ Q (.bl (!c)) H') (fun _ _ _ => False)) :
    wpAny (model X.prog X.w) X.A.in1 (call (.ref f) [.ref a, .ref b]) (fun v s' => ∃ c : Bool, v = .bool c ∧ EP X pins σ Q (.bool (!c)) s') X.xe s := by
  have hl := F.len _ _ _ _ hsp
  have r2 : Vals [V.ref a, V.ref b] [Value.ref a, Value.ref b] := .cons rfl (.cons rfl .nil)
  have hB : BindsTo s fd ⟨[.ref a, .ref b], []⟩ (ps.zip [.ref a, .ref b]) := by
    have := hb s [.ref a, .ref b] I.kIn (by simpa using hl)
    simpa using this
  refine wpAny_call (codeAny_mono (F.run X.A.in1 X.stack s H ⟨[.ref a, .ref b], []⟩ [.ref a, .ref b] [.ref a, .ref b] _ _ hr.in1 I.env0.in1 hB r2 hsp) fun r s' hq => ?_)
  match r, hq with
  | .ok (.ret w), hq =>
    obtain ⟨z, H', I', rz, c, rfl, q⟩ := I.after hq
    cases rz
    exact ⟨c, rfl, .bl (!c), H', I', rfl, q⟩
  | .error e, hq => exact False.elim hq
  | .ok .next, hq => exact False.elim hq
  | .ok .brk, hq => exact False.elim hq
  | .ok .cont, hq => exact False.elim hq
/-- x != y by the class's own ==, whatever it answers -/
theorem op_neOwn (F : FnOk X.prog X.w X.K X.mg X.base CX0 n f fd ps sp) (hr : Room (n + 1) X.A)
    (hs : PySem.W.findIn X.K (.ref C) "__eq__" = some (some (.ref f))) (hf : PySem.W.isFn X.K (.ref f) = true) (hb : Binds X.K fd ps []) (hne : findIn X.K (.ref C) "__ne__" = some (some (.builtin "object.__ne__"))) (ho : subIn X.K (.ref C) (.type "object") = some true) :
    OpR X (compareOp .NotEq) (fun x y H Q => ∃ a b dx dy fs gs, x = .ref a ∧ y = .ref b ∧ H a = some (.ins C dx fs) ∧ H b = some (.ins C dy gs) ∧ sp [.ref a, .ref b] H (fun v H' => ∃ c, v = .bl c ∧ Q (.bl (!c)) H') (fun _ _ _ => False)) := by
  intro pins s σ H x y v u Q I rx ry h
  obtain ⟨a, b, dx, dy, fs, gs, rfl, rfl, ha, hb', hsp⟩ := h
  cases rx
  cases ry
  obtain ⟨mA, J, _⟩ := ins_get I.hok ha
  obtain ⟨mB, J', _⟩ := ins_get I.hok hb'
  obtain ⟨od, J, _⟩ := J.look
  obtain ⟨od', J', _⟩ := J'.look
  obtain ⟨m, hF⟩ := I.fr
  have hu := hr.un
  exact ne_K (tb := .ref C) (by omega) hF I.ok.mod.kin J J'.type (by simp [PySem.W.notFirst]) hs hf hne ho (ne_call F hr hb I hsp)
/-- the same beside a list -/
theorem op_neOwnL (F : FnOk X.prog X.w X.K X.mg X.base CX0 n f fd ps sp) (hr : Room (n + 1) X.A)
    (hs : PySem.W.findIn X.K (.ref C) "__eq__" = some (some (.ref f))) (hf : PySem.W.isFn X.K (.ref f) = true) (hb : Binds X.K fd ps []) (hsl : PySem.W.subIn X.K (.type "list") (.ref C) = some false) (hne : findIn X.K (.ref C) "__ne__" = some (some (.builtin "object.__ne__"))) (ho : subIn X.K (.ref C) (.type "object") = some true) :
    OpR X (compareOp .NotEq) (fun x y H Q => ∃ a b dx fs xs, x = .ref a ∧ y = .ref b ∧ H a = some (.ins C dx fs) ∧ H b = some (.lst xs) ∧ sp [.ref a, .ref b] H (fun v H' => ∃ c, v = .bl c ∧ Q (.bl (!c)) H') (fun _ _ _ => False)) := by
  intro pins s σ H x y v u Q I rx ry h
  obtain ⟨a, b, dx, fs, xs, rfl, rfl, ha, hb', hsp⟩ := h
  cases rx
  cases ry
  obtain ⟨mA, J, _⟩ := ins_get I.hok ha
  obtain ⟨od, J, _⟩ := J.look
  obtain ⟨_, _, nn, _, h1⟩ := (show ObjOk X.prog X.w H s.heap b (.lst xs) from I.hok b _ hb')
  obtain ⟨m, hF⟩ := I.fr
  have hu := hr.un
  exact ne_K (tb := .type "list") (by omega) hF I.ok.mod.kin J (fun A Q E s k q => wpAny_typeOf_ref (k _ _ h1) q) (by simp [PySem.W.notFirst, hsl]) hs hf hne ho (ne_call F hr hb I hsp)
end
end Hx

set_option Elab.async false
set_option linter.all false
set_option maxRecDepth 100000
set_option maxHeartbeats 1000000
/-! del xs[a:]; xs[:] = ys; xs.remove(x) of data -/
namespace Hx
open PySem PySem.Spec PyProof.Rows L2
theorem hu65 {A : Around} {k : Nat} (hr : Room k A) : A.units + 65 < cLine := by have := hr.un; omega
section
variable {prog : Program} {w : World} {A : Around} {E : Value → Shared → Prop} {s : Shared}
theorem zip_all {f : Value × Nat → Option Value} : ∀ (l : List Value) (j : Nat), (∀ k x, j ≤ k → k < j + l.length → f (x, k) = some x) → (l.zipIdx j).filterMap f = l
  | [], _, _ => rfl
  | x :: l, j, h => by
    rw [List.zipIdx_cons, List.filterMap_cons, h j x (Nat.le_refl _) (by simp)]
    show x :: _ = x :: l
    rw [zip_all l (j + 1) fun k y h1 h2 => h k y (by omega) (by simp only [List.length_cons]; omega)]
theorem zip_none {f : Value × Nat → Option Value} : ∀ (l : List Value) (j : Nat), (∀ k x, j ≤ k → k < j + l.length → f (x, k) = none) → (l.zipIdx j).filterMap f = []
  | [], _, _ => rfl
  | x :: l, j, h => by
    rw [List.zipIdx_cons, List.filterMap_cons, h j x (Nat.le_refl _) (by simp)]
    show _ = []
    exact zip_none l (j + 1) fun k y h1 h2 => h k y (by omega) (by simp only [List.length_cons]; omega)
theorem zip_cut {f : Value × Nat → Option Value} {its : List Value} {a : Nat} (h : a ≤ its.length)
    (hf : ∀ x k, f (x, k) = if (decide ((a : Int) ≤ (k : Int)) && decide ((k : Int) < (its.length : Int)) && (((k : Int) - (a : Int)) % 1 == 0)) = true then none else some x) : its.zipIdx.filterMap f = its.take a := by
  have e := List.take_append_drop a its
  conv => lhs; rw [← e, List.zipIdx_append, List.filterMap_append]
  rw [zip_all (its.take a) 0 fun k x h1 h2 => by
    rw [hf, if_neg]
    rw [List.length_take] at h2
    simp only [Bool.and_eq_true, decide_eq_true_eq, not_and]
    omega, zip_none (its.drop a) _ fun k x h1 h2 => by
    rw [hf, if_pos]
    rw [List.length_take] at h1 h2
    rw [List.length_drop] at h2
    simp only [Bool.and_eq_true, decide_eq_true_eq, beq_iff_eq]
    omega, List.append_nil]
theorem bounds_from {a n : Nat} (h : a ≤ n) : sliceBounds (some (a : Int)) none none n = ((a : Int), (n : Int), 1) := by
  simp only [sliceBounds, Option.getD_none]
  have h1 : ¬ ((a : Int) < 0) := by omega
  simp only [h1, if_false, show (1 : Int) > 0 by decide, if_true]
  congr 1
  omega
theorem delItem_cut {l sl : Addr} {items : List Value} {n : Nat} {vl vu : Value} {a : Nat} {Q : Unit → Shared → Prop}
    (e : s.heap.get? l = some { cls := .type "list", data := .seq items.toArray n })
    (hs : s.heap.IsSliceOf sl vl vu .none) (pl : IsPart vl (some (a : Int))) (pu : IsPart vu none) (ha : a ≤ items.length)
    (hsz : items.length ≤ sizeLine) (h : ∀ f : Array Value → Array Value, f items.toArray = (items.take a).toArray → Q () { s with heap := s.heap.update l (Obj.mapSeq f) }) :
    wpAny (model prog w) A (delItem (.ref l) (.ref sl)) Q E s := by
  have hl : s.heap.IsList l items.toArray := PySem.IsL.isList e
  obtain ⟨os, hos, hcs, hds⟩ := id hs
  have hTs : s.TypeIs (.ref sl) "slice" := ⟨os, hos, hcs⟩
  have hstep : ¬ ((rawPart none == rawInt 0) = true) := Bool.false_ne_true
  refine wpAny_delItem_slot hl.typeIs (by decide) F.slot_list_delitem ?_
  refine wpAny_call_entry F.slot_list_delitem hl.typeIs F.entry_list_delitem ?_ (F.args_list_delitem_2 _ _)
  show wpAny _ _ (Builtin.List.listSubscript? (.ref sl) >>= _) _ _ s
  refine wpAny_bind ?_
  unfold Builtin.List.listSubscript?
  refine wpAny_bind (wpAny_specialOf hTs slice_no_index ?_)
  simp only [Option.isNone_none, if_true]
  refine wpAny_pure ?_
  show wpAny _ _ (typeOf (.ref sl) >>= _) _ _ s
  refine wpAny_bind (wpAny_typeOf hTs ?_)
  first
    | rw [if_neg (by decide)]
    | refine PySem.W.KFB.if_not (by decide) ?_
  rw [listSliceParts_eq]
  refine wpAny_bind (wpAny_bind (wpAny_field hos hds (x := .none) rfl (wpAny_bind (wpAny_listPart .none ?_))))
  rw [if_neg hstep]
  refine wpAny_bind (wpAny_field hos hds (x := vl) rfl (wpAny_bind (wpAny_listPart pl ?_)))
  refine wpAny_bind (wpAny_field hos hds (x := vu) rfl (wpAny_bind (wpAny_listPart pu (wpAny_pure ?_))))
  refine wpAny_bind (wpAny_bind (wpAny_seqItems e rfl (wpAny_pure ?_)))
  refine wpAny_bind (wpAny_of_eq ((sliceIndices_raw (some (a : Int)) none none items.toArray.size (by simp)).trans (congrArg (pure : Int × Int × Int → Sem (Int × Int × Int)) (bounds_from (by simpa using ha)))) ?_)
  refine wpAny_bind (wpAny_rule ?_)
  have key : ∀ (α : Type) (f : Array Value → Array Value) (m : Sem α) (R : α → Shared → Prop), f items.toArray = (items.take a).toArray → wpAny (model prog w) A.in1 m R E { s with heap := s.heap.update l (Obj.mapSeq f) } → wpAny (model prog w) A.in1 (Builtin.List.listUpdate (.ref l) f >>= fun _ => m) R E s := by
    intro α f m R hf hm
    have hz' : (f items.toArray).size ≤ sizeLine + 1 := by
      rw [hf, List.size_toArray, List.length_take]
      omega
    exact wpAny_bind (wpAny_updateSeq (hz := by rw [List.size_toArray]; exact hsz) (_hz' := hz') e rfl hm)
  have hfe := fun (f : Value × Nat → Option Value) (hf : ∀ x k, f (x, k) = if (decide ((a : Int) ≤ (k : Int)) && decide ((k : Int) < (items.length : Int)) && (((k : Int) - (a : Int)) % 1 == 0)) = true then none else some x) => (congrArg List.toArray (zip_cut ha hf) : (items.zipIdx.filterMap f).toArray = _)
  refine key _ _ _ _ (hfe _ fun x k => rfl) ?_
  refine wpAny_bind (wpAny_letGo ?_)
  exact wpAny_pure ⟨.none, rfl, h _ (hfe _ fun x k => rfl)⟩
end
section
variable {X : Cx}
/-- del xs[a:] -/
def tDelF (to : TE) (tl : TO) : TS := fun D σ H => to σ H fun x H1 => tl σ H1 fun o H2 => ∃ (l : Addr) (xs : List V) (a : Nat), x = .ref l ∧ o = some (a : Int) ∧ H2 l = some (.lst xs) ∧ a ≤ xs.length ∧ D.nx σ (upd H2 l (.lst (xs.take a)))
theorem ps_delF {o lo : Expr} {to : TE} {tl : TO} {tpos p2 pos : Pos} (ho : PE X o to) (hl : PO X (some lo) tl) : PS X (.Delete [.Subscript o (.Slice (some lo) none none p2) tpos] pos) (tDelF to tl) := by
  refine ⟨fun pins s σ H D I h => ?_⟩
  refine wpAny_Delete (wpAny_deleteEach_cons (wpAny_delete_Subscript (thn (ho.run pins s σ H _ I h) fun u s1 ⟨x, H1, I1, rx, q1⟩ => ?_)))
  refine wpAny_Slice (thn (hl.run pins s1 σ H1 _ I1 q1) fun vl s2 ⟨l, H2, I2, pl, q2⟩ => ?_)
  rw [evalPart_none]
  refine wpAny_pure ?_
  refine wpAny_pure ?_
  obtain ⟨b, xs, a, rfl, rfl, hH, ha, q2⟩ := q2
  cases (show u = Value.ref b from rx)
  have I4 : Inv X pins σ H2 { s2 with heap := s2.heap.push { cls := .type "slice", data := .fields #[vl, .none, .none] } } := I2.kept (t' := s2.toks) fun b ob q => Heap.get?_push_of_some _ q
  obtain ⟨z, its, n, r, hl, e⟩ := I4.lstM hH
  refine delItem_cut (a := a) e (Heap.IsSliceOf.new ..) pl .none (by omega) (by omega) fun f hf => ?_
  refine wpAny_deleteEach_nil ⟨σ, _, I4.lset (its' := its.take a) (t' := s2.toks) hH e hf (r.take _) ?_, q2⟩
  rw [List.length_take]
  omega
end
end Hx
namespace PySem
open MeetsSeq SeqAt
theorem hx_removeAt (l : Addr) (items : Array Value) (n : Nat) (x : Value) (e : Value → Bool) (j : Nat) (hj : j < items.size) (hit : e items[j] = true) (hs1 : items.size ≤ sizeLine) (k : Nat) :
    ∀ i : Nat, j - i = k → i ≤ j → (∀ m (hm : m < items.size), i ≤ m → m < j → e items[m] = false) → Meets (Builtin.«list.remove.loop» ⟨[.ref l, x, rawInt i], []⟩)
      (fun A R s => s.heap.get? l = some { cls := .type "list", dict := none, data := .seq items n, slots := #[] } ∧ (∀ y, y ∈ items → EqAt A.in1 s y x (e y)) ∧ R (.ok (.ret .none)) { s with heap := s.heap.update l (Obj.mapSeq fun xs => xs.eraseIdxIfInBounds j) }) := by
  induction k with
  | zero =>
    intro i hk hij hno prog w A R s h
    obtain ⟨hp, g, d, tk, os⟩ := s; obtain ⟨hl, he, h⟩ := h
    have hij' : i = j := by omega
    subst hij'
    wp_walk using wpAny_loadPart' hl
    have hi : items[((i : Nat) : Int).toNat]? = some items[i] := by simp [hj]
    rw [hi]
    refine wpAny_bind (he _ (Array.getElem_mem hj) prog w _ _ ?_)
    rw [hit]
    have hz' : (items.eraseIdxIfInBounds i).size ≤ sizeLine + 1 := Nat.le_trans (size_erased items _) (Nat.le_succ_of_le hs1)
    wp_walk using (wpAny_updateSeq hl rfl (hz := hs1) (_hz' := hz')), wpAny_loadPart' hl
    simpa using h
  | succ k ih =>
    intro i hk hij hno prog w A R s h
    obtain ⟨hp, g, d, tk, os⟩ := s; obtain ⟨hl, he, h⟩ := h
    have hlt : i < items.size := by omega
    wp_walk using wpAny_loadPart' hl
    have hi : items[((i : Nat) : Int).toNat]? = some items[i] := by simp [hlt]
    have hc : ((i : Int) + 1) = ((i + 1 : Nat) : Int) := by push_cast; rfl
    rw [hi]
    refine wpAny_bind (he _ (Array.getElem_mem hlt) prog w _ _ ?_)
    rw [hno i hlt (Nat.le_refl _) (by omega)]
    wp_walk
    rw [hc]
    exact ⟨plainId_quiet plain_remove_loop _, codeAny_builtin entry_remove_loop (by
      rw [Around.under_plainId plain_remove_loop _]
      exact ih (i + 1) (by omega) (by omega) (fun m hm h1 h2 => hno m hm (by omega) h2) prog w A R _ ⟨hl, he, h⟩)⟩
theorem hx_remove (l : Addr) (items : Array Value) (n : Nat) (x : Value) (e : Value → Bool) (j : Nat) (hj : j < items.size)
    (hit : e items[j] = true) (hno : ∀ m (hm : m < items.size), m < j → e items[m] = false) (hs1 : items.size ≤ sizeLine) :
    Meets (Builtin.«list.remove» ⟨[.ref l, x], []⟩)
      (fun A R s => s.heap.get? l = some { cls := .type "list", dict := none, data := .seq items n, slots := #[] } ∧ (∀ y, y ∈ items → EqAt A.in1 s y x (e y)) ∧ R (.ok (.ret .none)) { s with heap := s.heap.update l (Obj.mapSeq fun xs => xs.eraseIdxIfInBounds j) }) := by
  intro prog w A R s h
  obtain ⟨hp, g, d, tk, os⟩ := s; obtain ⟨hl, he, h⟩ := h
  wp_walk using wpAny_loadPart' hl
  exact ⟨plainId_quiet plain_remove_loop _, codeAny_builtin entry_remove_loop (by
    rw [Around.under_plainId plain_remove_loop _]
    exact hx_removeAt l items n x e j hj hit hs1 _ 0 rfl (Nat.zero_le _) (fun m hm _ h2 => hno m hm h2) prog w A R _ ⟨hl, he, h⟩)⟩
end PySem
namespace Hx
open PySem PySem.Spec PyProof.Rows L2
section
variable {X : Cx}
/-- l.remove(x): the first of the same data -/
def rRemD (K : PySem.W.Frag) : V → List V → Hp → VK → Prop := fun x xs H Q => ∃ (a : Addr) (vs : List V) (y : V) (d : PyData) (ds : List PyData) (j : Nat) (z : PyData), x = V.ref a ∧ xs = [y] ∧ H a = some (.lst vs) ∧ DpAll K H vs ds ∧ Dp K H y d ∧
  SeqAt.shaped (.list ds) = true ∧ SeqAt.shaped d = true ∧ ds[j]? = some z ∧ PyData.eqv z d = true ∧ (∀ (m : Nat) (z' : PyData), m < j → ds[m]? = some z' → PyData.eqv z' d = false) ∧ Q .non (upd H a (.lst (vs.eraseIdx j)))
theorem mt_remD (hu : X.A.units + 65 < cLine) : MtM X "list.remove" (rRemD X.K) := by
  intro pins s σ H x xs v us Q I rx rxs h
  obtain ⟨a, vs, y, d, ds, j, z, rfl, rfl, hH, hl, hy, sl, sd, hz, hzj, hno, q⟩ := h
  cases rx
  obtain ⟨uy, rfl, ry⟩ := rxs.one
  obtain ⟨bs, r1⟩ := Dp.reads I d y uy hy ry
  have hxs : PyData.canLayAll0 ds = true := SeqAt.canLay_of_shaped sl
  have hroom : X.A.units + 1 + min (PyData.depthAll ds) d.depth < cLine := room_in_shaped sd hu
  obtain ⟨hsz, its, n, rv, hlen, ho⟩ := I.lstM hH
  obtain ⟨as, h4⟩ := Dp.readsAll I ds _ its hl rv
  have hn : its.length = ds.length := SeqAt.ReadsAll.length ds its as h4
  have hmap : its.map (SeqAt.readOf s.heap) = ds := SeqAt.readsAll_map ds its as hxs h4
  obtain ⟨hjd, _⟩ := List.getElem?_eq_some_iff.mp hz
  have hjl : j < its.length := by omega
  have hj : j < its.toArray.size := by simpa using hjl
  have at_ : ∀ (m : Nat) (hm : m < its.toArray.size) (z' : PyData), ds[m]? = some z' → SeqAt.readOf s.heap its.toArray[m] = z' := by
    intro m hm z' hz'
    have hml : m < its.length := by simpa using hm
    rw [← hmap, List.getElem?_map, List.getElem?_eq_getElem hml] at hz'
    have e1 : SeqAt.readOf s.heap its[m] = z' := Option.some.inj (show some (SeqAt.readOf s.heap its[m]) = some z' from hz')
    simpa using e1
  refine call_meets PySem.F.slot_list_remove ⟨_, ho, rfl⟩ PySem.F.entry_list_remove (PySem.F.args_list_remove_2 _ _)
    (hx_remove a its.toArray n uy (fun u => PyData.eqv (SeqAt.readOf s.heap u) d) j hj ?_ ?_ (by rw [List.size_toArray]; omega)) ⟨ho, SeqAt.items_eqAt (vs := its.toArray) (show ReadsAll s.heap its.toArray.toList ds as from h4) r1 hxs (SeqAt.canLay_of_shaped sd) hroom, ?_⟩
  · show PyData.eqv (SeqAt.readOf s.heap its.toArray[j]) d = true
    rw [at_ j hj z hz]
    exact hzj
  · intro m hm hmj
    have hmd : m < ds.length := by omega
    have hz' : ds[m]? = some ds[m] := List.getElem?_eq_getElem hmd
    show PyData.eqv (SeqAt.readOf s.heap its.toArray[m]) d = false
    rw [at_ m hm _ hz']
    exact hno m _ hmj hz'
  · refine ⟨.non, _, I.lset (its' := its.eraseIdx j) hH ho ?_ (rv.eraseIdx j) ?_, rfl, q⟩
    · show its.toArray.eraseIdxIfInBounds j = (its.eraseIdx j).toArray
      rw [List.eraseIdxIfInBounds_toArray]
    · have := len_erase vs j
      omega
end
section
variable {prog : Program} {w : World} {A : Around} {E : Value → Shared → Prop} {s : Shared}
theorem bounds_all (n : Nat) : sliceBounds none none none n = ((0 : Int), (n : Int), 1) := by
  simp only [sliceBounds, Option.getD_none, show (1 : Int) > 0 by decide, if_true]
theorem setItem_all {l b sl : Addr} {its its2 : List Value} {n n2 : Nat} {vl vu : Value} {Q : Unit → Shared → Prop}
    (e : s.heap.get? l = some { cls := .type "list", data := .seq its.toArray n }) (e2 : s.heap.get? b = some { cls := .type "list", data := .seq its2.toArray n2 }) (hne : l ≠ b)
    (hs : s.heap.IsSliceOf sl vl vu .none) (pl : IsPart vl none) (pu : IsPart vu none) (hz1 : its.length ≤ sizeLine) (hsz : its.length + its2.length ≤ sizeLine)
    (h : ∀ f : Array Value → Array Value, f its.toArray = its2.toArray → Q () { s with heap := s.heap.update l (Obj.mapSeq f) }) :
    wpAny (model prog w) A (setItem (.ref l) (.ref sl) (.ref b)) Q E s := by
  have hl : s.heap.IsList l its.toArray := PySem.IsL.isList e
  have hb : s.heap.IsList b its2.toArray := PySem.IsL.isList e2
  obtain ⟨os, hos, hcs, hds⟩ := id hs
  have hTs : s.TypeIs (.ref sl) "slice" := ⟨os, hos, hcs⟩
  have hstep : ¬ ((rawPart none == rawInt 0) = true) := Bool.false_ne_true
  have hsame : Builtin.List.listSameRef (.ref l) (.ref b) = false := beq_eq_false_iff_ne.mpr hne
  unfold setItem
  refine wpAny_holding ?_
  refine wpAny_bind (wpAny_sequenceKey hl.typeIs (by decide) ?_)
  refine wpAny_bind (wpAny_callSpecial?_slot (name := Str.ofString "__setitem__") hl.typeIs F.slot_list_setitem
    (wpAny_call_entry F.slot_list_setitem hl.typeIs F.entry_list_setitem ?_ (F.args_list_setitem_3 _ _ _)))
  refine wpAny_bind (m := Builtin.List.listSubscript? (.ref sl)) ?_
  unfold Builtin.List.listSubscript?
  refine wpAny_bind (wpAny_specialOf hTs slice_no_index ?_)
  simp only [Option.isNone_none, if_true]
  refine wpAny_pure ?_
  refine wpAny_bind (m := typeOf (.ref sl)) (wpAny_typeOf hTs ?_)
  first
    | rw [if_neg (by decide)]
    | refine PySem.W.KFB.if_not (by decide) ?_
  rw [listSliceParts_eq]
  refine wpAny_bind (wpAny_bind (wpAny_field hos hds (x := .none) rfl (wpAny_bind (wpAny_listPart .none ?_))))
  rw [if_neg hstep]
  refine wpAny_bind (wpAny_field hos hds (x := vl) rfl (wpAny_bind (wpAny_listPart pl ?_)))
  refine wpAny_bind (wpAny_field hos hds (x := vu) rfl (wpAny_bind (wpAny_listPart pu (wpAny_pure ?_))))
  first
    | simp only [hsame, Bool.false_eq_true, if_false]
    | refine PySem.W.KFB.if_not hsame ?_
  refine wpAny_bind (m := Builtin.List.listAllItems (.ref b) "must assign iterable to extended slice") ?_
  unfold Builtin.List.listAllItems
  refine wpAny_bind (wpAny_typeOf hb.typeIs ?_)
  first
    | refine PySem.W.KFB.if_so (by decide) ?_
    | rw [if_pos (by decide)]
  refine wpAny_bind (wpAny_seqItems e2 rfl (wpAny_pure ?_))
  refine wpAny_bind (wpAny_bind (wpAny_seqItems e rfl (wpAny_pure ?_)))
  refine wpAny_bind (wpAny_of_eq ((sliceIndices_raw none none none its.toArray.size (by simp)).trans (congrArg (pure : Int × Int × Int → Sem (Int × Int × Int)) (bounds_all _))) ?_)
  refine PySem.W.KFB.if_so rfl ?_
  refine wpAny_bind (wpAny_rule ?_)
  refine PySem.W.KFB.if_not (notLongL (by rw [List.size_toArray, List.size_toArray]; exact hsz)) ?_
  have key : ∀ (α : Type) (f : Array Value → Array Value) (m : Sem α) (R : α → Shared → Prop), f its.toArray = its2.toArray → wpAny (model prog w) A.in1 m R E { s with heap := s.heap.update l (Obj.mapSeq f) } → wpAny (model prog w) A.in1 (Builtin.List.listUpdate (.ref l) f >>= fun _ => m) R E s := by
    intro α f m R hf hm
    have hz' : (f its.toArray).size ≤ sizeLine + 1 := by
      rw [hf, List.size_toArray]
      omega
    exact wpAny_bind (wpAny_updateSeq (hz := by rw [List.size_toArray]; exact hz1) (_hz' := hz') e rfl hm)
  have hfe : (fun xs : Array Value => xs.extract 0 (0 : Int).toNat ++ its2.toArray ++ xs.extract (max (0 : Int) (its.toArray.size : Int)).toNat xs.size) its.toArray = its2.toArray := by
    have h1 : (max (0 : Int) (its.toArray.size : Int)).toNat = its.toArray.size := by omega
    show its.toArray.extract 0 (0 : Int).toNat ++ its2.toArray ++ its.toArray.extract (max (0 : Int) (its.toArray.size : Int)).toNat its.toArray.size = _
    rw [h1]
    apply Array.toList_inj.mp
    simp
  refine key _ _ _ _ hfe ?_
  refine wpAny_bind (wpAny_letGo ?_)
  exact wpAny_pure ⟨.none, rfl, wpAny_pure (h _ hfe)⟩
end
section
variable {X : Cx}
/-- xs[:] = of another list -/
def gSlAll (to : TE) : TG := fun v σ H Q => to σ H fun x H1 => ∃ (l b : Addr) (xs ys : List V), x = .ref l ∧ v = .ref b ∧ H1 l = some (.lst xs) ∧ H1 b = some (.lst ys) ∧ l ≠ b ∧ xs.length + ys.length ≤ sizeLine ∧ Q σ (upd H1 l (.lst ys))
theorem pg_slAll {o : Expr} {to : TE} {p2 pos : Pos} (ho : PE X o to) : PG X (.Subscript o (.Slice none none none p2) pos) (gSlAll to) := by
  refine ⟨fun pins s σ H v u Q I r h => ?_⟩
  rw [arm_assign_Subscript]
  refine wpAny_bind (wpAny_holding (thn (ho.run pins s σ H _ I h) fun ov s1 ⟨x, H1, I1, r1, q1⟩ => ?_))
  refine wpAny_bind (wpAny_holding ?_)
  refine wpAny_Slice ?_
  rw [evalPart_none]
  refine wpAny_pure ?_
  refine wpAny_pure ?_
  refine wpAny_pure ?_
  obtain ⟨l, b, xs, ys, rfl, rfl, hH, hB, hne, hz, q1⟩ := q1
  cases (show ov = Value.ref l from r1)
  cases (show u = Value.ref b from r)
  have I4 : Inv X pins σ H1 { s1 with heap := s1.heap.push { cls := .type "slice", data := .fields #[.none, .none, .none] } } := I1.kept (t' := s1.toks) fun b ob q => Heap.get?_push_of_some _ q
  obtain ⟨z, its, n, rv, hl, e⟩ := I4.lstM hH
  obtain ⟨z2, its2, n2, rv2, hl2, e2⟩ := I4.lstM hB
  refine wpAny_bind (wpAny_standAt (wpAny_bind (wpAny_holding (setItem_all e e2 hne (Heap.IsSliceOf.new ..) .none .none (by omega) (by omega) fun f hf => ?_))))
  refine wpAny_release ⟨σ, _, I4.lset (its' := its2) (t' := s1.toks) hH e hf rv2 ?_, q1⟩
  exact z2
end
end Hx

set_option Elab.async false
set_option linter.all false
set_option maxRecDepth 100000
set_option maxHeartbeats 1000000
/-! == of two dicts of data, with any answer -/
namespace Hx
open PySem PySem.Spec PyProof.Rows L2
def hitD (lds : List (Key × PyData)) (p : Key × PyData) : Bool := match valD lds p.1 with
  | some d => PyData.eqv p.2 d
  | none => false
def eqvDD (kds lds : List (Key × PyData)) : Bool := kds.length == lds.length && kds.all (hitD lds)
section
variable {X : Cx} {pins : List (Addr × Obj)} {σ : L2.St} {H : Hp} {s : Shared}
theorem hitsDD (I : L2.Inv X pins σ H s) {A : Around} (hu : A.units + 64 < cLine) {ls : List (Key × V)} {vb : List (Key × Value)} (rb : KV ls vb) {lds : List (Key × PyData)} (hk : ls.map Prod.fst = lds.map Prod.fst)
    (hd : DpAll X.K H (ls.map Prod.snd) (lds.map Prod.snd)) (hs : ∀ p ∈ lds, SeqAt.shaped p.2 = true) : ∀ {kds : List (Key × PyData)} {ks : List (Key × V)} {va : List (Key × Value)}, KV ks va → ks.map Prod.fst = kds.map Prod.fst → DpAll X.K H (ks.map Prod.snd) (kds.map Prod.snd) → (∀ p ∈ kds, SeqAt.shaped p.2 = true) →
    PySem.W.KeqHitsP X.prog X.w A s vb va (kds.all (hitD lds)) := by
  intro kds
  induction kds with
  | nil =>
    intro ks va ra e _ _
    cases ks with
    | cons p r => simp at e
    | nil => cases ra; exact .nil
  | cons q kds ih =>
    intro ks va ra e hdp hsh
    cases ks with
    | nil => simp at e
    | cons p ks =>
      obtain ⟨e1, e2⟩ := keys_cons e
      cases hdp with
      | cons d1 d2 =>
        cases ra with
        | @cons _ q' _ qs h t =>
          obtain ⟨h1, h2⟩ := h
          obtain ⟨key, v⟩ := q'
          have h1' : p.1 = key := h1
          have ek : key = q.1 := h1' ▸ e1
          have r := ih t e2 d2 (fun p hp => hsh p (List.mem_cons_of_mem _ hp))
          rw [List.all_cons]
          have rr : RelO (valV ls q.1) (valueAt vb q.1) := rb.val q.1
          subst ek
          unfold hitD
          cases ev : valD lds q.1 with
          | none =>
            rw [valV_ofN hk ev] at rr
            rw [Bool.false_and]
            exact .miss (RelO.none_of rr)
          | some d' =>
            obtain ⟨v', ev'⟩ := valV_of hk ev
            rw [ev'] at rr
            obtain ⟨y, hy, ry⟩ := rr.some_of
            have dp' := valV_dp hk hd ev' ev
            obtain ⟨as, r1⟩ := Dp.reads I q.2 p.2 v d1 h2
            obtain ⟨bs, r2⟩ := Dp.reads I d' v' y dp' ry
            have s1 := hsh q List.mem_cons_self
            have s2 : SeqAt.shaped d' = true := by
              unfold valD at ev
              obtain ⟨z, hz, ez⟩ := Option.map_eq_some_iff.mp ev
              rw [← ez]
              exact hs z (List.mem_of_find?_eq_some hz)
            refine .hit hy (SeqAt.EqAt.eqP (SeqAt.eqAt_reads q.2 d' A s v y as bs r1 r2 (SeqAt.canLay_of_shaped s1) (SeqAt.canLay_of_shaped s2) ?_)) r
            have : q.2.depth ≤ 64 := by
              have := s1
              unfold SeqAt.shaped at this
              rw [Bool.and_eq_true] at this
              exact of_decide_eq_true this.2
            omega
def rDD (K : PySem.W.Frag) : R2 := fun x y H Q => ∃ (a b : Addr) (ks ls : List (Key × V)) (kds lds : List (Key × PyData)), x = .ref a ∧ y = .ref b ∧ H a = some (.dK ks) ∧ H b = some (.dK ls) ∧ ks.map Prod.fst = kds.map Prod.fst ∧ ls.map Prod.fst = lds.map Prod.fst ∧
  DpAll K H (ks.map Prod.snd) (kds.map Prod.snd) ∧ DpAll K H (ls.map Prod.snd) (lds.map Prod.snd) ∧ (∀ p ∈ kds, SeqAt.shaped p.2 = true) ∧ (∀ p ∈ lds, SeqAt.shaped p.2 = true) ∧ Q (.bl (eqvDD kds lds)) H
theorem op_eqDD (hu : X.A.units + 65 < cLine) : OpR X (compareOp .Eq) (rDD X.K) := by
  intro pins s σ H x y v u Q I rx ry h
  obtain ⟨a, b, ks, ls, kds, lds, rfl, rfl, ea, eb, hk, hl, dk, dl, sk, sl, q⟩ := h
  obtain rfl : v = Value.ref a := rx
  obtain rfl : u = Value.ref b := ry
  obtain ⟨_, ya, va, ra, da⟩ := (show ObjOk X.prog X.w H s.heap a (.dK ks) from I.hok a _ ea)
  obtain ⟨_, yb, vb, rb, db⟩ := (show ObjOk X.prog X.w H s.heap b (.dK ls) from I.hok b _ eb)
  refine PySem.W.rcP_dicts (knd := mixKind X.prog X.w) (r := kds.all (hitD lds)) ya yb da db (by omega) (fun _ => hitsDD I (A := X.A.in1) (by show X.A.units + 1 + 64 < cLine; omega) rb hl dl sl ra hk dk sk) _ _ ?_
  refine ⟨.bl _, H, I, rfl, ?_⟩
  have e1 : va.length = kds.length := by rw [← ra.length, ← List.length_map (f := Prod.fst), hk, List.length_map]
  have e2 : vb.length = lds.length := by rw [← rb.length, ← List.length_map (f := Prod.fst), hl, List.length_map]
  rw [e1, e2]
  exact q
end
end Hx

set_option Elab.async false
set_option linter.all false
set_option maxRecDepth 100000
set_option maxHeartbeats 4000000
/-! raise X() without arguments; repr of an int or None; the sum of a tuple; calls by keywords within a try; a loop over zip with one name as its target -/
namespace Hx
open PySem PySem.Spec PyProof.Rows L2 SkE
section
variable {X : Cx} {pos : Pos}
/-- X(), X an own exception class without own __init__ -/
theorem pmk_own0 {C : Addr} {bmB : List Value} {B newId initId : String} {x : Str} {p : Pos} (F : ExcBaseFacts B newId initId bmB) (q : PySem.W.excIn X.K C bmB newId = true) (gC : X.mg x = some (.ref C))
    (kC : PySem.W.keepIn X.K (.ref C) = true) (r : Raises X (.ref C)) (hg : Gl X x) (hdb : (x == ("__debug__" : Str)) = false := by decide) :
    PMk X (.Call (.Name x p) [] [] pos) (fun _ H Q => Q (.ref C) none H) := by
  intro pins s σ H Q I h
  refine wpAny_Call_Name_kw (ld_glob I hg gC ?_ hdb)
  refine PySem.W.callWith_K0 I.kIn kC ?_
  show wpAny _ _ (call (.ref C) []) _ _ _
  obtain ⟨bm, N, nm, qn, bs, hdct, sn, sub, ab, col, dd, k0, k1, k2, k3, k5, mN, hC, hN, hni, T⟩ := exc_obj I.kIn q
  refine wpAny_call_exc_subT F T hC hN hni (fun h' e hm => ?_) (Nat.zero_le _)
  exact mk_of I hm r h (I.hok.gone hm.new)
/-- repr of an int, of None -/
def rRepIO : List V → Hp → VK → Prop := fun xs H Q => (∃ i : Int, xs = [.int i] ∧ i.natAbs.log2 < 1920 ∧ Q (.str (toString i)) H) ∨ (xs = [.non] ∧ Q (.str "None") H)
theorem call_repr_io : CallR X (.builtin "repr") rRepIO := by
  intro pins s σ H xs us Q I r h
  rcases h with h | ⟨rfl, q⟩
  · exact call_repr_int pins s σ H xs us Q I r h
  · cases r with
    | cons ru rn =>
      cases rn
      cases ru
      exact PySem.P.repr_of_none ⟨.str _, H, I.tok _, ⟨_, rfl⟩, q⟩
/-- {k: v, ..} with keys that are known -/
def tDispK (ks : List Key) (trs : List (TE × TE)) : TE := fun σ H Q => ∀ p, H p = none → tPairs trs σ (upd H p (.dK [])) fun ps H2 => H2 p = some (.dK []) ∧ ps.map Prod.fst = ks.map kV ∧ Q (.ref p) (upd H2 p (.dK (mergeK [] (ks.zip (ps.map Prod.snd)))))
theorem zip_keys : ∀ {ks : List Key} {ps : List (V × V)}, ps.map Prod.fst = ks.map kV → ps = (ks.zip (ps.map Prod.snd)).map fun kv => (kV kv.1, kv.2)
  | [], [], _ => rfl
  | [], _ :: _, h => by simp at h
  | _ :: _, [], h => by simp at h
  | k :: ks, p :: ps, h => by
    simp only [List.map_cons, List.cons.injEq] at h
    simp only [List.map_cons, List.zip_cons_cons, List.cons.injEq]
    exact ⟨by rw [← h.1], zip_keys h.2⟩
theorem pe_dispK {ks : List Key} {keys : List (Option Expr)} {values : List Expr} {trs : List (TE × TE)} (h : PPs X pos keys values trs) (hall : keys.all (·.isSome) = true) (hl : keys.length = values.length) (h0 : keys ≠ [])
    (h15 : keys.length ≤ 15) (hk : ks.length ≤ 15) : PE X (.Dict keys values pos) (tDispK ks trs) := by
  refine ⟨fun pins s σ H Q I q => ?_⟩
  have hn := I.hok.fresh (Nat.le_refl s.heap.objs.size)
  have I1 := I.laid (a := s.heap.objs.size) (o := .dK []) (h' := s.heap.push { cls := .type "dict", data := .dict #[] }) (t' := s.toks) (fun _ _ q => Heap.get?_push_of_some _ q) (Nat.le_refl _) (dk_empty s.heap I.big)
  refine wpAny_Dict_walk (knd := mixKind X.prog X.w) hall hl h0 h15 (thn (h.run pins _ σ _ _ I1 (q _ hn)) fun ws s2 ⟨ps, H2, I2, rel, e, ek, q2⟩ => ?_)
  have ep := zip_keys ek
  have lk : (ks.zip (ps.map Prod.snd)).length ≤ 15 := by rw [List.length_zip]; omega
  generalize ks.zip (ps.map Prod.snd) = kvs at ep lk q2
  subst ep
  obtain ⟨rs, c, rk⟩ := carries_of (P := X.prog) (w := X.w) rel
  obtain ⟨z, hd, vs0, r0, dd⟩ := dk_of I2.hok e
  cases r0
  refine ⟨rs, c, dd, fun h' dd' hs => ⟨.ref s.heap.objs.size, _, ?_, rfl, q2⟩⟩
  have hz : (mergeK [] kvs).length ≤ sizeLine := by
    have h1 := length_mergeK kvs []
    rw [List.length_nil] at h1
    rw [sizeLine_eq]; omega
  have he : ∃ q, h'.get? s.heap.objs.size = some q := let ⟨q, _, _, hq, _⟩ := dd'; ⟨q, hq⟩
  exact d_write I2 (by rw [e]; exact True.intro) hs he (dk_new hz hd (rk.merge .nil) dd')
theorem DGet.ks {H : Hp} {a : Addr} {kvs : List (Key × V)} {x : Str} {r : Option V} (e : H a = some (.dK kvs)) (h : valV kvs (Sum.inr x) = r) : DGet H a (.str x) r := h ▸ DGet.k (k := Sum.inr x) e
/-- in a display; in a tuple of the module's -/
theorem op_inT : OpR X (compareOp .In) (fun x y H Q => ∃ p xs, y = .ref p ∧ H p = some (.tup xs) ∧ flatV x = true ∧ xs.all flatV = true ∧ Q (.bl (inV x xs)) H) :=
  fun pins s σ H x y v u Q I rx ry ⟨p, xs, e, h, q⟩ => op_in_seq pins s σ H x y v u Q I rx ry ⟨p, xs, e, .inr (SqT.of h), q⟩
theorem op_inL : OpR X (compareOp .In) (fun x y H Q => ∃ p xs, y = .ref p ∧ H p = some (.lst xs) ∧ flatV x = true ∧ xs.all flatV = true ∧ Q (.bl (inV x xs)) H) :=
  fun pins s σ H x y v u Q I rx ry ⟨p, xs, e, h, q⟩ => op_in_seq pins s σ H x y v u Q I rx ry ⟨p, xs, e, .inl (SqL.of h), q⟩
theorem op_notInK {D : Addr} {xs : List V} (h : ∀ H : Hp, SqT X.K H D xs) (hf : xs.all flatV = true) : OpR X (compareOp .NotIn) (fun x y H Q => y = .ref D ∧ flatV x = true ∧ Q (.bl (!inV x xs)) H) :=
  fun pins s σ H x y v u Q I rx ry ⟨e, h1, q⟩ => op_notIn_seq pins s σ H x y v u Q I rx ry ⟨D, xs, e, .inr (h H), h1, hf, q⟩
theorem op_inK {D : Addr} {xs : List V} (h : ∀ H : Hp, SqT X.K H D xs) (hf : xs.all flatV = true) : OpR X (compareOp .In) (fun x y H Q => y = .ref D ∧ flatV x = true ∧ Q (.bl (inV x xs)) H) :=
  fun pins s σ H x y v u Q I rx ry ⟨e, h1, q⟩ => op_in_seq pins s σ H x y v u Q I rx ry ⟨D, xs, e, .inr (h H), h1, hf, q⟩
/-- the same, said of the value -/
def RepOk (v : V) : Prop := v = .non ∨ ∃ i : Int, v = .int i ∧ i.natAbs.log2 < 1920
def repT : V → Str
  | .int i => toString i
  | _ => "None"
theorem call_repr_v : CallR X (.builtin "repr") (fun xs H Q => ∃ v : V, xs = [v] ∧ RepOk v ∧ Q (.str (repT v)) H) := by
  intro pins s σ H xs us Q I r h
  obtain ⟨v, rfl, hv, q⟩ := h
  rcases hv with rfl | ⟨i, rfl, hi⟩
  · exact call_repr_io pins s σ H _ us Q I r (.inr ⟨rfl, q⟩)
  · exact call_repr_io pins s σ H _ us Q I r (.inl ⟨i, rfl, hi, q⟩)
/-- the sum of a tuple of ints -/
def rSumT (K : PySem.W.Frag) : List V → Hp → VK → Prop := fun vs H Q => ∃ (a : Addr) (ns : List Int), vs = [V.ref a] ∧ SqT K H a (ns.map V.int) ∧ Q (.int ns.sum) H
theorem cr_sumT (hc : X.calm = true) : CallR X (.builtin "sum") (rSumT X.K) := by
  intro pins s σ H vs us Q I r h
  obtain ⟨a, ns, rfl, hs, q⟩ := h
  obtain ⟨its, rv, ht, _⟩ := I.tuple hs
  rw [Vals.ref1 r]
  have hi := rv.ints
  obtain ⟨xs, hx⟩ := hi.allInts.items
  have ht' : s.heap.IsTuple a its.toArray := ht
  have hn : numsOf its.toArray.toList = ns := by rw [show its.toArray.toList = its from rfl, hi.numsOf]
  rw [hx] at ht' hn
  rw [nums_intItems] at hn
  refine PySem.W.ktm_sumG (I.ok.hd hc) ht' fun h' tk t' hk => ?_
  rw [preSum_eq, List.take_of_length_le (by simp), hn]
  exact ⟨.int _, H, I.kept hk, ⟨_, rfl⟩, q⟩
end
section
variable {X : Cx}
/-- for NAME in zip(e, e2) of two lists: the pair that came first, T0, has to stay -/
def tForZN (K : PySem.W.Frag) (ta : TA) (g : TG) (tb : TS) : TS := fun D σ H => ta σ H fun vs H1 => ∃ a b xs ys, vs = [.ref a, .ref b] ∧ SqL K H1 a xs ∧ SqL K H1 b ys ∧ Stop (∀ T0 : Addr, H1 T0 = none → ∃ W : Nat → Nat → L2.St → Hp → Prop, (∃ m, W 0 m σ H1) ∧ ∀ i m σ H, W i m σ H →
  (0 < i → ∃ u, H T0 = some u) ∧ (((Itz K a b).stop i H ∧ D.nx σ H) ∨ ((Itz K a b).go i H ∧ ∃ N : L2.St → Hp → Prop, (∀ σ' H', N σ' H' → ∃ m', m' < m ∧ W (i + 1) m' σ' H') ∧ ∀ x H', (Itz K a b).yld i H x H' → (i = 0 → x = .ref T0) → g x σ H' fun σ2 H2 => tb { D with nx := N, ct := N, bk := D.nx } σ2 H2)))
/-- the objects of the iterator at turn i -/
def ZnAt (a b z TI TO i1 i2 T0 : Addr) (i : Nat) (h : Heap) : Prop := IsPair h TI (.ref i1) (.ref i2) ∧ (∃ x y, IsPair h TO x y) ∧ h.IsListIter i1 a i ∧ h.IsListIter i2 b i ∧ ((i = 0 ∧ IsZip h z TI TO .none) ∨ (0 < i ∧ ∃ f, PySem.IsZipHeld h z TI TO T0 f))
theorem ZnAt.objs {a b z TI TO i1 i2 T0 : Addr} {i : Nat} {h : Heap} (st : ZnAt a b z TI TO i1 i2 T0 i h) : ∀ c ∈ [z, TI, TO, i1, i2], ∃ o, h.get? c = some o ∧ ∀ v, o.data ≠ .cell v := fun c hc => by
  obtain ⟨hTI, ⟨x, y, hTO⟩, ⟨o1, e1, _, d1⟩, ⟨o2, e2, _, d2⟩, hz⟩ := st
  have hz' : ∃ o, h.get? z = some o ∧ ∀ v, o.data ≠ .cell v := by
    rcases hz with ⟨_, hz⟩ | ⟨_, f, hz⟩
    · exact ⟨_, hz, fun v q => nomatch q⟩
    · exact ⟨_, hz, fun v q => nomatch q⟩
  have e' : c = z ∨ c = TI ∨ c = TO ∨ c = i1 ∨ c = i2 := by simpa using hc
  rcases e' with q | q | q | q | q
  · rw [q]; exact hz'
  · rw [q]; exact ⟨_, hTI, fun v q => nomatch q⟩
  · rw [q]; exact ⟨_, hTO, fun v q => nomatch q⟩
  · rw [q]; exact ⟨o1, e1, fun v q => by rw [d1] at q; cases q⟩
  · rw [q]; exact ⟨o2, e2, fun v q => by rw [d2] at q; cases q⟩
theorem ZnAt.keep {a b z TI TO i1 i2 T0 : Addr} {i : Nat} {h h' : Heap} (st : ZnAt a b z TI TO i1 i2 T0 i h) (k : ∀ c ∈ [z, TI, TO, i1, i2], ∀ o, h.get? c = some o → h'.get? c = some o) : ZnAt a b z TI TO i1 i2 T0 i h' := by
  obtain ⟨hTI, ⟨x, y, hTO⟩, h1, h2, hz⟩ := st
  refine ⟨k TI (by simp) _ hTI, ⟨x, y, k TO (by simp) _ hTO⟩, h1.at fun o q => k i1 (by simp) o q, h2.at fun o q => k i2 (by simp) o q, ?_⟩
  rcases hz with ⟨e, hz⟩ | ⟨e, f, hz⟩
  · exact .inl ⟨e, k z (by simp) _ hz⟩
  · exact .inr ⟨e, f, k z (by simp) _ hz⟩
/-- the next pair -/
theorem zn_item {a b z TI TO i1 i2 T0 : Addr} (D : ZipApart z TI TO i1 i2 a b) {x : Str} {px : Pos} {E : Value → Shared → Prop} {i : Nat} {pins : List (Addr × Obj)} {s : Shared} {σ : L2.St} {H : Hp} (I : Inv X pins σ H s)
    (hf : ∀ c ∈ [z, TI, TO, i1, i2], FpOk X pins H c) (st : ZnAt a b z TI TO i1 i2 T0 i s.heap) (hs : i = 0 → s.heap.objs.size = T0) (hT : 0 < i → ∃ u, H T0 = some u) (hg : (Itz X.K a b).go i H) :
    wpAny (model X.prog X.w) X.A (pyNext (.ref z)) (fun r s1 => ∃ u, r = some u ∧ wpAny (model X.prog X.w) X.A (letOwnedTupleGo (.Name x px) (.ref z) u) (fun _ s2 => ∃ v H', Inv X pins σ H' s2 ∧ RelV v u ∧ ((Itz X.K a b).yld i H v H' ∧ (i = 0 → v = .ref T0)) ∧ ZnAt a b z TI TO i1 i2 T0 (i + 1) s2.heap ∧ ∀ c ∈ [z, TI, TO, i1, i2], H' c = none) E s1) E s := by
  obtain ⟨hTI, ⟨x0, y0, hTO⟩, h1, h2, hz⟩ := st
  obtain ⟨xs, ys, vx, vy, hqx, hqy, hx, hy⟩ := hg
  obtain ⟨its, rv, p, _⟩ := I.list hqx
  obtain ⟨its2, rv2, p2, _⟩ := I.list hqy
  obtain ⟨u, hu, ru⟩ := rv.get hx
  obtain ⟨u2, hu2, ru2⟩ := rv2.get hy
  have lt : ∀ {c : Addr}, c ∈ [z, TI, TO, i1, i2] → c < s.heap.objs.size := fun {c} hcm => by
    obtain ⟨o, e, _⟩ := (show ZnAt a b z TI TO i1 i2 T0 i s.heap from ⟨hTI, ⟨x0, y0, hTO⟩, h1, h2, hz⟩).objs c hcm
    exact Heap.lt_size e
  have fin : ∀ h' : Heap, IsPair h' s.heap.objs.size u u2 → (∀ c o, c ∉ [z, TI, TO, i1, i2] → s.heap.get? c = some o → h'.get? c = some o) →
      Inv X pins σ (upd H s.heap.objs.size (.tup [vx, vy])) { s with heap := h' } ∧ ((Itz X.K a b).yld i H (.ref s.heap.objs.size) (upd H s.heap.objs.size (.tup [vx, vy])) ∧ ∀ c ∈ [z, TI, TO, i1, i2], upd H s.heap.objs.size (.tup [vx, vy]) c = none) := fun h' hT hk => by
    have new : ObjOk X.prog X.w (upd H s.heap.objs.size (.tup [vx, vy])) h' s.heap.objs.size (.tup [vx, vy]) :=
      ⟨by show 2 ≤ sizeLine; decide, [u, u2], .cons ru (.cons ru2 .nil), ⟨_, hT, rfl, _, rfl⟩⟩
    refine ⟨I.turnedNew (t' := s.toks) (ch := [z, TI, TO, i1, i2]) (fun c o hb q => hk c o hb q) hf (Nat.le_refl _) new, ⟨_, vx, vy, rfl, I.hok.fresh (Nat.le_refl _), rfl, fun l hl => by rw [I.list_inj hl hqx]; exact hx, fun l hl => by rw [I.list_inj hl hqy]; exact hy⟩, fun c hcm => ?_⟩
    rw [upd_ne (Nat.ne_of_lt (lt hcm))]
    exact (hf c hcm).1
  rcases hz with ⟨rfl, hz⟩ | ⟨h0, f, hz⟩
  · refine wpAny_pyNext_zip_item D hz hTI hTO h1 h2 p.isList p2.isList (x := u) (y := u2) (by simpa using hu) (by simpa using hu2) fun h' z' TO' h1' h2' hT hsz hk => ?_
    obtain ⟨I1, y1, f1⟩ := fin h' hT fun c o hb q => hk c o (fun q' => hb (by simp [q'])) (fun q' => hb (by simp [q'])) (fun q' => hb (by simp [q'])) (fun q' => hb (by simp [q'])) q
    refine ⟨_, rfl, wpAny_pure ⟨.ref s.heap.objs.size, _, I1, rfl, ⟨y1, fun _ => by rw [hs rfl]⟩, ⟨hk _ _ D.TIz D.TITO D.TIi1 D.TIi2 hTI, ⟨_, _, TO'⟩, h1', h2', .inr ⟨Nat.succ_pos _, false, ?_⟩⟩, f1⟩⟩
    rw [← hs rfl]
    exact z'
  · obtain ⟨o0, ho0⟩ := hT h0
    obtain ⟨oT, hoT⟩ := objOk_get (I.hok T0 o0 ho0)
    refine PySem.wpAny_pyNext_zip_item_held D hz hoT hTI h1 h2 p.isList p2.isList (x := u) (y := u2) (by simpa using hu) (by simpa using hu2) fun h' z' h1' h2' hT hsz hk => ?_
    obtain ⟨I1, y1, f1⟩ := fin h' hT fun c o hb q => hk c o (fun q' => hb (by simp [q'])) (fun q' => hb (by simp [q'])) (fun q' => hb (by simp [q'])) q
    exact ⟨_, rfl, wpAny_pure ⟨.ref s.heap.objs.size, _, I1, rfl, ⟨y1, fun e => absurd e (by omega)⟩, ⟨hk _ _ D.TIz D.TIi1 D.TIi2 hTI, ⟨_, _, hk _ _ D.TOz D.TOi1 D.TOi2 hTO⟩, h1', h2', .inr ⟨Nat.succ_pos _, true, z'⟩⟩, f1⟩⟩
theorem zn_done {a b z TI TO i1 i2 T0 : Addr} (D : ZipApart z TI TO i1 i2 a b) {E : Value → Shared → Prop} {i : Nat} {pins : List (Addr × Obj)} {s : Shared} {σ : L2.St} {H : Hp} (hc : X.calm = true) (I : Inv X pins σ H s)
    (hf : ∀ c ∈ [z, TI, TO, i1, i2], FpOk X pins H c) (st : ZnAt a b z TI TO i1 i2 T0 i s.heap) (hT : 0 < i → ∃ u, H T0 = some u) (hg : (Itz X.K a b).stop i H) :
    wpAny (model X.prog X.w) X.A (pyNext (.ref z)) (fun r s1 => r = none ∧ Inv X pins σ H s1) E s := by
  obtain ⟨hTI, ⟨x0, y0, hTO⟩, h1, h2, hz⟩ := st
  obtain ⟨xs, ys, hqx, hqy, hend⟩ := hg
  obtain ⟨its, rv, p, _⟩ := I.list hqx
  obtain ⟨its2, rv2, p2, _⟩ := I.list hqy
  have l1 := rv.length
  have l2 := rv2.length
  have he : its.toArray[i]? = none ∨ its2.toArray[i]? = none := by
    rcases hend with q | q
    · exact .inl (by simp; omega)
    · exact .inr (by simp; omega)
  rcases hz with ⟨rfl, hz⟩ | ⟨h0, f, hz⟩
  · exact wpAny_pyNext_zip_end (I.ok.hd hc) D hz hTI hTO h1 h2 p.isList p2.isList he fun h' hk => ⟨rfl, I.turnedL (t' := s.toks) (ch := [z, TI, TO, i1, i2]) (fun c o hb q =>
      hk c o (fun q' => hb (by simp [q'])) (fun q' => hb (by simp [q'])) (fun q' => hb (by simp [q'])) (fun q' => hb (by simp [q'])) q) hf⟩
  · obtain ⟨o0, ho0⟩ := hT h0
    obtain ⟨oT, hoT⟩ := objOk_get (I.hok T0 o0 ho0)
    exact PySem.wpAny_pyNext_zip_end_held (I.ok.hd hc) D hz hoT hTI h1 h2 p.isList p2.isList he fun h' hk => ⟨rfl, I.turnedL (t' := s.toks) (ch := [z, TI, TO, i1, i2]) (fun c o hb q =>
      hk c o (fun q' => hb (by simp [q'])) (fun q' => hb (by simp [q'])) (fun q' => hb (by simp [q'])) q) hf⟩
theorem ps_forZN {x : Str} {px p pos cpos : Pos} {e e2 : Expr} {ta : TA} {g : TG} {tb : TS} {body : List Stmt} (hp : PassesOwn (model X.prog X.w) X.A X.env X.xe) (hc : X.calm = true) (hgl : Gl X "zip") (hm : X.mg "zip" = none) (ha : PA X [e, e2] ta)
    (hg : PG X (.Name x px) g) (hb : PSs X body tb)
    (hs : starEach [e, e2] X.env = (false, eval e X.env) :: starEach [e2] X.env := by rfl) (hpl : (backTo cpos (starEach [e2] X.env)).any (·.1) = false := by rfl)
    (hfs : ∀ x, foldedSetIterable (.Call (.Name "zip" p) [e, e2] [] cpos) X.env x = pure x := by intro _; rfl) : PS X (.For (.Name x px) (.Call (.Name "zip" p) [e, e2] [] cpos) body [] pos) (tForZN X.K ta g tb) := by
  refine ⟨fun pins s σ H D I h => ?_⟩
  refine wpAny_For ?_ hfs
  refine Call_ (ld_blt I hgl hm PyProof.Rows.boot_zip (PyProof.Rows.callWith_type1 (thn (ha.run cpos pins s σ H _ I h) fun us s1 ⟨vs, H1, I1, r1, q1⟩ => ?_) hs hpl))
  obtain ⟨a, b, xs, ys, ex, hqx, hqy, q⟩ := q1
  subst ex
  cases r1 with
  | cons r rr =>
    cases rr with
    | cons r' rr =>
      cases rr
      cases r
      cases r'
      obtain ⟨its, rv, p1, _⟩ := I1.list hqx
      obtain ⟨its2, rv2, p2, _⟩ := I1.list hqy
      have la : a < s1.heap.objs.size := p1.lt
      have lb : b < s1.heap.objs.size := p2.lt
      refine call_zip_2 p1.isList p2.isList fun h' hz hTI hTO h1 h2 hsz hk => wpAny_pyIter_zip hz ?_
      have I2 : Inv X pins σ H1 { s1 with heap := h' } := I1.kept (t' := s1.toks) hk
      obtain ⟨T0, hT0⟩ : ∃ T0, T0 = h'.objs.size := ⟨_, rfl⟩
      obtain ⟨W, ⟨m0, w0⟩, turn⟩ := q.h T0 (I2.hok.fresh (by rw [hT0]; exact Nat.le_refl _))
      have D := PySem.W.ktu_apart s1.heap.objs.size a b la lb
      obtain ⟨fp, hfp⟩ : ∃ fp, fp = [s1.heap.objs.size + 4, s1.heap.objs.size + 2, s1.heap.objs.size + 3, s1.heap.objs.size, s1.heap.objs.size + 1] := ⟨_, rfl⟩
      have f2 : ∀ c ∈ fp, FpOk X pins H1 c := fun c hcm => by
        rw [hfp] at hcm
        have e' : c = s1.heap.objs.size + 4 ∨ c = s1.heap.objs.size + 2 ∨ c = s1.heap.objs.size + 3 ∨ c = s1.heap.objs.size ∨ c = s1.heap.objs.size + 1 := by simpa using hcm
        have hle : s1.heap.objs.size ≤ c := by
          rcases e' with z | z | z | z | z
          · rw [z]; exact Nat.le_add_right _ _
          · rw [z]; exact Nat.le_add_right _ _
          · rw [z]; exact Nat.le_add_right _ _
          · rw [z]; exact Nat.le_refl _
          · rw [z]; exact Nat.le_add_right _ _
        exact I1.fpOk hle (I1.hok.fresh hle)
      have stat : ∀ {H' : Hp}, (∀ c ∈ fp, H' c = none) → ∀ c ∈ fp, FpOk X pins H' c := fun hn c hb => ⟨hn c hb, (f2 c hb).2⟩
      refine codeAny_forLoop_any (fun n s' => ∃ i σ' H', Inv X pins σ' H' s' ∧ ZnAt a b (s1.heap.objs.size + 4) (s1.heap.objs.size + 2) (s1.heap.objs.size + 3) s1.heap.objs.size (s1.heap.objs.size + 1) T0 i s'.heap ∧ (∀ c ∈ fp, H' c = none) ∧ W i n σ' H' ∧ (i = 0 → s'.heap.objs.size = T0)) ?_ m0
        ⟨0, σ, H1, I2, ⟨hTI, ⟨_, _, hTO⟩, h1, h2, .inl ⟨rfl, hz⟩⟩, fun c hb => (f2 c hb).1, w0, fun _ => hT0.symm⟩
      rintro n s3 ⟨i, σ3, H3, I3, st3, fr3, w3, hs0⟩
      obtain ⟨alive, tw⟩ := turn i n σ3 H3 w3
      rcases tw with ⟨stop, qn⟩ | ⟨go, N, hN, step⟩
      · refine wpAny_passesOwn hp (thn (zn_done D hc I3 (hfp ▸ stat fr3) st3 alive stop) fun r s4 ⟨hr, I4⟩ => ?_)
        subst hr
        exact wpAny_execs_nil ⟨σ3, H3, I4, qn⟩
      · refine wpAny_passesOwn hp (thn (zn_item (x := x) (px := px) D I3 (hfp ▸ stat fr3) st3 hs0 alive go) fun r s4 ⟨u, hr, h4⟩ => ?_)
        subst hr
        refine wpAny_passesOwn hp (thn h4 fun _ s5 ⟨v, H5, I5, r5, ⟨y5, y6⟩, st5, fr5⟩ => ?_)
        rw [← hfp] at fr5
        have ob5 := hfp ▸ st5.objs
        have I5' := I5.pinned (stat fr5) ob5
        refine wpAny_passesOwn hp (thn (hg.run _ s5 σ3 H5 v u _ I5' r5 (step v H5 y5 y6)) fun _ s6 ⟨σ6, H6, I6, q6⟩ => ?_)
        refine wpAny_passesOwn hp (thn (hb.run _ s6 σ6 H6 _ I6 q6) fun f s7 q7 => ?_)
        have again : ∀ {σ7 : L2.St} {H7 : Hp}, Inv X (pins ++ pinsAt fp s5.heap) σ7 H7 s7 → N σ7 H7 → ∃ m, m < n ∧ ∃ i σ' H', Inv X pins σ' H' s7 ∧ ZnAt a b (s1.heap.objs.size + 4) (s1.heap.objs.size + 2) (s1.heap.objs.size + 3) s1.heap.objs.size (s1.heap.objs.size + 1) T0 i s7.heap ∧ (∀ c ∈ fp, H' c = none) ∧ W i m σ' H' ∧ (i = 0 → s7.heap.objs.size = T0) := fun {σ7 H7} I7 n7 => by
          obtain ⟨m', hm, w7⟩ := hN σ7 H7 n7
          refine ⟨m', hm, i + 1, σ7, H7, I7.unpinned, st5.keep (hfp ▸ fun c hb o e => (I7.pin (c, o) (List.mem_append_right _ (List.mem_append_right _ (mem_pinsAt hb e)))).1), fun c hb => ?_, w7, fun z => absurd z (Nat.succ_ne_zero _)⟩
          obtain ⟨o, e, d⟩ := ob5 c hb
          exact (I7.pin (c, o) (List.mem_append_right _ (List.mem_append_right _ (mem_pinsAt hb e)))).2.1
        cases f with
        | next => obtain ⟨σ7, H7, I7, n7⟩ := q7; exact again I7 n7
        | cont => obtain ⟨σ7, H7, I7, n7⟩ := q7; exact again I7 n7
        | brk => obtain ⟨σ7, H7, I7, q7⟩ := q7; exact ⟨σ7, H7, I7.unpinned, q7⟩
        | ret v => obtain ⟨x7, σ7, H7, I7, r7, q7⟩ := q7; exact ⟨x7, σ7, H7, I7.unpinned, r7, q7⟩
/-- lists of one length that stay -/
theorem for_zipN {K : PySem.W.Frag} {a b : Addr} {xs ys : List V} {g : TG} {tb : TS} {D : L2.Ends} {σ : L2.St} {H : Hp} (hl : xs.length = ys.length) (Pv : Addr → Nat → L2.St → Hp → Prop) (h0 : ∀ T0, H T0 = none → Pv T0 0 σ H)
    (ha : ∀ T0 i σ H, i ≤ xs.length → Pv T0 i σ H → SqL K H a xs ∧ SqL K H b ys ∧ (0 < i → ∃ u, H T0 = some u))
    (hs : ∀ T0 i x y T σ H, xs[i]? = some x → ys[i]? = some y → Pv T0 i σ H → H T = none → (i = 0 → T = T0) → g (.ref T) σ (upd H T (.tup [x, y])) fun σ2 H2 => tb { D with nx := Pv T0 (i + 1), ct := Pv T0 (i + 1), bk := D.nx } σ2 H2) (hd : ∀ T0 σ H, Pv T0 xs.length σ H → D.nx σ H) :
    ∀ T0 : Addr, H T0 = none → ∃ W : Nat → Nat → L2.St → Hp → Prop, (∃ m, W 0 m σ H) ∧ ∀ i m σ H, W i m σ H →
      (0 < i → ∃ u, H T0 = some u) ∧ (((Itz K a b).stop i H ∧ D.nx σ H) ∨ ((Itz K a b).go i H ∧ ∃ N : L2.St → Hp → Prop, (∀ σ' H', N σ' H' → ∃ m', m' < m ∧ W (i + 1) m' σ' H') ∧ ∀ x H', (Itz K a b).yld i H x H' → (i = 0 → x = .ref T0) → g x σ H' fun σ2 H2 => tb { D with nx := N, ct := N, bk := D.nx } σ2 H2)) := by
  intro T0 hT0
  refine ⟨fun i m σ H => m = xs.length - i ∧ i ≤ xs.length ∧ Pv T0 i σ H, ⟨xs.length, by simp, Nat.zero_le _, h0 T0 hT0⟩, ?_⟩
  rintro i m σ H ⟨rfl, hi, p⟩
  obtain ⟨q1, q2, q3⟩ := ha T0 i σ H hi p
  refine ⟨q3, ?_⟩
  by_cases hlt : i < xs.length
  · refine .inr ⟨⟨xs, ys, xs[i], ys[i], q1, q2, by simp [hlt], by simp [hlt, ← hl]⟩, Pv T0 (i + 1), fun σ' H' p' => ⟨xs.length - (i + 1), by omega, rfl, hlt, p'⟩, fun x H' y z => ?_⟩
    obtain ⟨T, x', y', rfl, hT, rfl, hx, hy⟩ := y
    exact hs T0 i x' y' T σ H (hx xs q1) (hy ys q2) p hT (fun e => by have := z e; injection this)
  · have e : i = xs.length := by omega
    subst e
    exact .inl ⟨⟨xs, ys, q1, q2, .inl (Nat.le_refl _)⟩, hd T0 σ H p⟩
end
section
variable {X : Cx} {CX : CXT} {k : Nat} {f : Addr} {fd : FuncData} {ps ks : List Str} {sp : Sp} {E : L2.St → XK} {x : Str} {p pos : Pos} {kws : List Keyword} {tk : TA} {g : List Value → List Value → List Value} {gV : List V → List V → List V}
theorem run_fnkS {pins : List (Addr × Obj)} {σ : L2.St} {H : Hp} {s : Shared} {Q : VK} {us ws : List Value} {vs zs : List V} (F : FnOk X.prog X.w X.K X.mg X.base CX k f fd ps sp) (hr : Room k X.A) (hb : KBinds X.K fd ps ks g gV) (hx : PassesAt CX X σ (E σ))
    (I : Inv X pins σ H s) (r : Vals vs us) (rz : Vals zs ws) (h : sp (gV vs zs) H Q (E σ)) : wpAny (model X.prog X.w) X.A (call (.ref f) us (ks.zip ws)) (EP X pins σ Q) X.xe s := by
  have r2 := hb.rel r rz
  have hl : (g us ws).length = ps.length := by rw [← r2.length]; exact F.len _ _ _ _ h
  refine wpAny_call (codeAny_mono (F.run X.A X.stack s H ⟨us, ks.zip ws⟩ (g us ws) (gV vs zs) Q (E σ) hr I.env0 (hb.to s us ws I.kIn hl) r2 h) fun r s' hq => ?_)
  cases r with
  | error e => exact hx pins H s e s' I hq
  | ok fl =>
    cases fl with
    | ret u => exact I.after hq
    | next => exact False.elim hq
    | brk => exact False.elim hq
    | cont => exact False.elim hq
def tCallKS (sp : Sp) (gV : List V → List V → List V) (E : L2.St → XK) (tk : TA) : TE := fun σ H Q => tk σ H fun zs H2 => sp (gV [] zs) H2 Q (E σ)
/-- f(k=e, ..) that may raise, within a try -/
theorem pe_callKS (F : FnOk X.prog X.w X.K X.mg X.base CX k f fd ps sp) (hr : Room k X.A) (hg : Gl X x) (hm : X.mg x = some (.ref f)) (hk : PySem.W.keepIn X.K (.ref f) = true) (hb : KBinds X.K fd ps ks g gV) (hx : ∀ σ, PassesAt CX X σ (E σ))
    (hkw : PK X kws tk) (hall : (backToKw pos (keywordEach kws X.env)).all (·.1.isSome) = true := by rfl) (hks : (backToKw pos (keywordEach kws X.env)).filterMap (·.1) = ks := by rfl)
    (hdb : (x == ("__debug__" : Str)) = false := by decide)
    (hpl : ((backTo pos (starEach [] X.env)).any (·.1) || (backToKw pos (keywordEach kws X.env)).any (·.1.isNone)) = false := by rfl) :
    PE X (.Call (.Name x p) [] kws pos) (tCallKS sp gV E tk) := by
  refine ⟨fun pins s σ H Q I h => ?_⟩
  refine wpAny_Call_Name_kw (ld_glob I hg hm ?_ hdb)
  refine PySem.W.callWith_KW0 (h₀ := X.base) I.ok.mod.kin hk hall ?_ hpl
  refine thn (hkw.run pos pins s σ H _ I h) fun ws s2 ⟨zs, H2, I2, rz, q2⟩ => ⟨I2.kIn, ?_⟩
  rw [hks]
  exact run_fnkS F hr hb (hx σ) I2 .nil rz q2
end
end Hx

set_option Elab.async false
set_option linter.all false
set_option maxRecDepth 100000
set_option maxHeartbeats 8000000

namespace K76
open PySem PySem.Spec PyProof.Rows L2 Hx
def top (i : Nat) : Stmt := PySem.Challenge.pw_orderlycore_k76_whole_queues_by_own_list.main.body.getD i (.Pass ⟨0, 0, 0, 0⟩)
abbrev s_is_integer : Stmt := top 15
theorem sc_is_integer : FnScope ["value"] ["value"] (defScope s_is_integer) := ⟨rfl, rfl, rfl, by decide +kernel, rfl, by decide +kernel, by decide +kernel⟩
abbrev s_is_count : Stmt := top 16
theorem sc_is_count : FnScope ["value"] ["value"] (defScope s_is_count) := ⟨rfl, rfl, rfl, by decide +kernel, rfl, by decide +kernel, by decide +kernel⟩
abbrev s_is_between : Stmt := top 17
theorem sc_is_between : FnScope ["value", "least", "most"] ["value", "least", "most"] (defScope s_is_between) := ⟨rfl, rfl, rfl, by decide +kernel, rfl, by decide +kernel, by decide +kernel⟩
abbrev s_need_many : Stmt := top 18
theorem sc_need_many : FnScope ["value", "least", "most"] ["value", "least", "most"] (defScope s_need_many) := ⟨rfl, rfl, rfl, by decide +kernel, rfl, by decide +kernel, by decide +kernel⟩
abbrev s_need_number : Stmt := top 19
theorem sc_need_number : FnScope ["value"] ["value"] (defScope s_need_number) := ⟨rfl, rfl, rfl, by decide +kernel, rfl, by decide +kernel, by decide +kernel⟩
abbrev s_is_word : Stmt := top 23
theorem sc_is_word : FnScope ["value"] ["value"] (defScope s_is_word) := ⟨rfl, rfl, rfl, by decide +kernel, rfl, by decide +kernel, by decide +kernel⟩
abbrev s_is_place : Stmt := top 24
theorem sc_is_place : FnScope ["value"] ["value"] (defScope s_is_place) := ⟨rfl, rfl, rfl, by decide +kernel, rfl, by decide +kernel, by decide +kernel⟩
abbrev s_need_word : Stmt := top 25
theorem sc_need_word : FnScope ["value"] ["value"] (defScope s_need_word) := ⟨rfl, rfl, rfl, by decide +kernel, rfl, by decide +kernel, by decide +kernel⟩
abbrev s_need_place : Stmt := top 26
theorem sc_need_place : FnScope ["value"] ["value"] (defScope s_need_place) := ⟨rfl, rfl, rfl, by decide +kernel, rfl, by decide +kernel, by decide +kernel⟩
abbrev s_Queues_init : Stmt := inClass (top 30) 0
theorem sc_Queues_init : FnScope ["self", "loads", "stores"] ["self", "loads", "stores"] (defScope s_Queues_init) := ⟨rfl, rfl, rfl, by decide +kernel, rfl, by decide +kernel, by decide +kernel⟩
abbrev s_Queues_can_load : Stmt := inClass (top 30) 1
theorem sc_Queues_can_load : FnScope ["self"] ["self"] (defScope s_Queues_can_load) := ⟨rfl, rfl, rfl, by decide +kernel, rfl, by decide +kernel, by decide +kernel⟩
abbrev s_Queues_can_store : Stmt := inClass (top 30) 2
theorem sc_Queues_can_store : FnScope ["self"] ["self"] (defScope s_Queues_can_store) := ⟨rfl, rfl, rfl, by decide +kernel, rfl, by decide +kernel, by decide +kernel⟩
abbrev s_Queues_load_entered : Stmt := inClass (top 30) 3
theorem sc_Queues_load_entered : FnScope ["self", "number"] ["self", "number"] (defScope s_Queues_load_entered) := ⟨rfl, rfl, rfl, by decide +kernel, rfl, by decide +kernel, by decide +kernel⟩
abbrev s_Queues_store_entered : Stmt := inClass (top 30) 4
theorem sc_Queues_store_entered : FnScope ["self", "number"] ["self", "number"] (defScope s_Queues_store_entered) := ⟨rfl, rfl, rfl, by decide +kernel, rfl, by decide +kernel, by decide +kernel⟩
abbrev s_Queues_known : Stmt := inClass (top 30) 5
theorem sc_Queues_known : FnScope ["self", "number", "place", "word", "load", "read_place", "source"] ["self", "number", "place", "word"] (defScope s_Queues_known) := ⟨rfl, rfl, rfl, by decide +kernel, rfl, by decide +kernel, by decide +kernel⟩
abbrev s_Queues_source : Stmt := inClass (top 30) 6
theorem sc_Queues_source : FnScope ["self", "number", "place", "found", "store", "store_place", "word"] ["self", "number", "place"] (defScope s_Queues_source) := ⟨rfl, rfl, rfl, by decide +kernel, rfl, by decide +kernel, by decide +kernel⟩
abbrev s_Queues_read : Stmt := inClass (top 30) 7
theorem sc_Queues_read : FnScope ["self", "number", "place", "source"] ["self", "number", "place", "source"] (defScope s_Queues_read) := ⟨rfl, rfl, rfl, by decide +kernel, rfl, by decide +kernel, by decide +kernel⟩
abbrev s_Queues_leave : Stmt := inClass (top 30) 8
theorem sc_Queues_leave : FnScope ["self", "number", "queue"] ["self", "number"] (defScope s_Queues_leave) := ⟨rfl, rfl, rfl, by decide +kernel, rfl, by decide +kernel, by decide +kernel⟩
abbrev s_Queues_dropped : Stmt := inClass (top 30) 9
theorem sc_Queues_dropped : FnScope ["self", "number", "one", "kept"] ["self", "number"] (defScope s_Queues_dropped) := ⟨rfl, rfl, rfl, by decide +kernel, rfl, by decide +kernel, by decide +kernel⟩
abbrev s_Queues_loads : Stmt := inClass (top 30) 10
theorem sc_Queues_loads : FnScope ["self", "number", "place", "source"] ["self"] (defScope s_Queues_loads) := ⟨rfl, rfl, rfl, by decide +kernel, rfl, by decide +kernel, by decide +kernel⟩
abbrev s_Queues_stores : Stmt := inClass (top 30) 11
theorem sc_Queues_stores : FnScope ["self", "number", "place", "word"] ["self"] (defScope s_Queues_stores) := ⟨rfl, rfl, rfl, by decide +kernel, rfl, by decide +kernel, by decide +kernel⟩
abbrev s_Queues_copy : Stmt := inClass (top 30) 12
theorem sc_Queues_copy : FnScope ["self", "made"] ["self"] (defScope s_Queues_copy) := ⟨rfl, rfl, rfl, by decide +kernel, rfl, by decide +kernel, by decide +kernel⟩
abbrev s_Queues_eq : Stmt := inClass (top 30) 13
theorem sc_Queues_eq : FnScope ["self", "other"] ["self", "other"] (defScope s_Queues_eq) := ⟨rfl, rfl, rfl, by decide +kernel, rfl, by decide +kernel, by decide +kernel⟩
abbrev s_Queuesall_numbers : Stmt := inClass (top 30) 14
theorem sc_Queuesall_numbers : FnScope ["self"] ["self"] (defScope s_Queuesall_numbers) := ⟨rfl, rfl, rfl, by decide +kernel, rfl, by decide +kernel, by decide +kernel⟩
abbrev s_Queuesneed_above_all : Stmt := inClass (top 30) 15
theorem sc_Queuesneed_above_all : FnScope ["self", "value", "number"] ["self", "value"] (defScope s_Queuesneed_above_all) := ⟨rfl, rfl, rfl, by decide +kernel, rfl, by decide +kernel, by decide +kernel⟩
abbrev s_Queuesis_source : Stmt := inClass (top 30) 16
theorem sc_Queuesis_source : FnScope ["self", "value", "number", "place"] ["self", "value", "number", "place"] (defScope s_Queuesis_source) := ⟨rfl, rfl, rfl, by decide +kernel, rfl, by decide +kernel, by decide +kernel⟩
abbrev s__is_one_of : Stmt := top 31
theorem sc__is_one_of : FnScope ["queue", "value"] ["queue", "value"] (defScope s__is_one_of) := ⟨rfl, rfl, rfl, by decide +kernel, rfl, by decide +kernel, by decide +kernel⟩
abbrev s__need_one_of : Stmt := top 32
theorem sc__need_one_of : FnScope ["queue", "value"] ["queue", "value"] (defScope s__need_one_of) := ⟨rfl, rfl, rfl, by decide +kernel, rfl, by decide +kernel, by decide +kernel⟩
abbrev s_Lpot : Stmt := top 34
theorem sc_Lpot : FnScope ["_law_script", "_law_k", "_law_cell"] ["_law_script", "_law_k"] (defScope s_Lpot) := ⟨rfl, rfl, rfl, by decide +kernel, rfl, by decide +kernel, by decide +kernel⟩
abbrev s_Ldraw : Stmt := top 35
theorem sc_Ldraw : FnScope ["_law_pot_here", "_law_size", "_law_digit"] ["_law_pot_here", "_law_size"] (defScope s_Ldraw) := ⟨rfl, rfl, rfl, by decide +kernel, rfl, by decide +kernel, by decide +kernel⟩
abbrev s_Lpick : Stmt := top 36
theorem sc_Lpick : FnScope ["_law_pot_here", "_law_some"] ["_law_pot_here", "_law_some"] (defScope s_Lpick) := ⟨rfl, rfl, rfl, by decide +kernel, rfl, by decide +kernel, by decide +kernel⟩
abbrev s_Lsource : Stmt := top 37
theorem sc_Lsource : FnScope ["_law_stores", "_law_number", "_law_place", "_law_found", "_law_one", "_law_at", "_law_word"] ["_law_stores", "_law_number", "_law_place"] (defScope s_Lsource) := ⟨rfl, rfl, rfl, by decide +kernel, rfl, by decide +kernel, by decide +kernel⟩
abbrev s_Learly : Stmt := top 38
theorem sc_Learly : FnScope ["_law_loads", "_law_number", "_law_place", "_law_one", "_law_at", "_law_source_here"] ["_law_loads", "_law_number", "_law_place"] (defScope s_Learly) := ⟨rfl, rfl, rfl, by decide +kernel, rfl, by decide +kernel, by decide +kernel⟩
abbrev s_Ltold_right : Stmt := top 39
theorem sc_Ltold_right : FnScope ["_law_queues", "_law_rooms", "_law_loads", "_law_stores", "_law_number", "_law_at", "_law_source_here", "_law_place"] ["_law_queues", "_law_rooms", "_law_loads", "_law_stores"] (defScope s_Ltold_right) := ⟨rfl, rfl, rfl, by decide +kernel, rfl, by decide +kernel, by decide +kernel⟩
abbrev s_Ldeed : Stmt := top 40
theorem sc_Ldeed : FnScope ["_law_pot_here", "_law_queues", "_law_rooms", "_law_loads", "_law_stores", "_law_next_one", "_law_way", "_law_place", "_law_at", "_law_waiting", "_law_unknown", "_law_numbers", "_law_least", "_law_oldest", "_law_word", "_law_number", "_law_found", "_law_source_here", "_law_row"] ["_law_pot_here", "_law_queues", "_law_rooms", "_law_loads", "_law_stores", "_law_next_one"] (defScope s_Ldeed) := ⟨rfl, rfl, rfl, by decide +kernel, rfl, by decide +kernel, by decide +kernel⟩
abbrev s_Lright : Stmt := top 41
theorem sc_Lright : FnScope ["_law_pot_here", "_law_rooms", "_law_queues", "_law_loads", "_law_stores", "_law_next_one", "_law_turn", "_law_held", "_law_ahead", "_law_is_same"] ["_law_pot_here"] (defScope s_Lright) := ⟨rfl, rfl, rfl, by decide +kernel, rfl, by decide +kernel, by decide +kernel⟩
abbrev s_law : Stmt := top 42
theorem sc_law : FnScope ["_law_script"] ["_law_script"] (defScope s_law) := ⟨rfl, rfl, rfl, by decide +kernel, rfl, by decide +kernel, by decide +kernel⟩
abbrev F_Queues (v0 v1 v2 v3 : V) : List (Str × V) := [("_load_rooms", v0), ("_store_rooms", v1), ("_loads", v2), ("_stores", v3)]
theorem gt_Queues_load_rooms {v0 v1 v2 v3 : V} : (F_Queues v0 v1 v2 v3).lookup ("_load_rooms" : Str) = some v0 := rfl
theorem pu_Queues_load_rooms {v0 v1 v2 v3 u : V} : putF "_load_rooms" u (F_Queues v0 v1 v2 v3) = F_Queues u v1 v2 v3 := rfl
theorem pi_Queues_load_rooms {v0 : V} : putF "_load_rooms" v0 [] = ([("_load_rooms", v0)] : List (Str × V)) := rfl
theorem gt_Queues_store_rooms {v0 v1 v2 v3 : V} : (F_Queues v0 v1 v2 v3).lookup ("_store_rooms" : Str) = some v1 := rfl
theorem pu_Queues_store_rooms {v0 v1 v2 v3 u : V} : putF "_store_rooms" u (F_Queues v0 v1 v2 v3) = F_Queues v0 u v2 v3 := rfl
theorem pi_Queues_store_rooms {v0 v1 : V} : putF "_store_rooms" v1 [("_load_rooms", v0)] = ([("_load_rooms", v0), ("_store_rooms", v1)] : List (Str × V)) := rfl
theorem gt_Queues_loads {v0 v1 v2 v3 : V} : (F_Queues v0 v1 v2 v3).lookup ("_loads" : Str) = some v2 := rfl
theorem pu_Queues_loads {v0 v1 v2 v3 u : V} : putF "_loads" u (F_Queues v0 v1 v2 v3) = F_Queues v0 v1 u v3 := rfl
theorem pi_Queues_loads {v0 v1 v2 : V} : putF "_loads" v2 [("_load_rooms", v0), ("_store_rooms", v1)] = ([("_load_rooms", v0), ("_store_rooms", v1), ("_loads", v2)] : List (Str × V)) := rfl
theorem gt_Queues_stores {v0 v1 v2 v3 : V} : (F_Queues v0 v1 v2 v3).lookup ("_stores" : Str) = some v3 := rfl
theorem pu_Queues_stores {v0 v1 v2 v3 u : V} : putF "_stores" u (F_Queues v0 v1 v2 v3) = F_Queues v0 v1 v2 u := rfl
theorem pi_Queues_stores {v0 v1 v2 v3 : V} : putF "_stores" v3 [("_load_rooms", v0), ("_store_rooms", v1), ("_loads", v2)] = F_Queues v0 v1 v2 v3 := rfl
structure Txt (K : PySem.W.Frag) (mg : Str → Option Value) where
  C_Queues : Addr
  cl_Queues : Cls K C_Queues
  g_Queues : mg "Queues" = some (.ref C_Queues)
  n_Queues_load_rooms : NoAttr K C_Queues "_load_rooms"
  n_Queues_store_rooms : NoAttr K C_Queues "_store_rooms"
  n_Queues_loads : NoAttr K C_Queues "_loads"
  n_Queues_stores : NoAttr K C_Queues "_stores"
  f_is_integer : Addr
  fd_is_integer : FuncData
  F_is_integer : Fun K "is_integer" "is_integer" s_is_integer f_is_integer fd_is_integer
  g_is_integer : mg "is_integer" = some (.ref f_is_integer)
  b_is_integer : Binds K fd_is_integer ["value"] []
  f_is_count : Addr
  fd_is_count : FuncData
  F_is_count : Fun K "is_count" "is_count" s_is_count f_is_count fd_is_count
  g_is_count : mg "is_count" = some (.ref f_is_count)
  b_is_count : Binds K fd_is_count ["value"] []
  f_is_between : Addr
  fd_is_between : FuncData
  F_is_between : Fun K "is_between" "is_between" s_is_between f_is_between fd_is_between
  g_is_between : mg "is_between" = some (.ref f_is_between)
  b_is_between : Binds K fd_is_between ["value", "least", "most"] []
  f_need_many : Addr
  fd_need_many : FuncData
  F_need_many : Fun K "need_many" "need_many" s_need_many f_need_many fd_need_many
  g_need_many : mg "need_many" = some (.ref f_need_many)
  b_need_many : Binds K fd_need_many ["value", "least", "most"] []
  f_need_number : Addr
  fd_need_number : FuncData
  F_need_number : Fun K "need_number" "need_number" s_need_number f_need_number fd_need_number
  g_need_number : mg "need_number" = some (.ref f_need_number)
  b_need_number : Binds K fd_need_number ["value"] []
  f_is_word : Addr
  fd_is_word : FuncData
  F_is_word : Fun K "is_word" "is_word" s_is_word f_is_word fd_is_word
  g_is_word : mg "is_word" = some (.ref f_is_word)
  b_is_word : Binds K fd_is_word ["value"] []
  f_is_place : Addr
  fd_is_place : FuncData
  F_is_place : Fun K "is_place" "is_place" s_is_place f_is_place fd_is_place
  g_is_place : mg "is_place" = some (.ref f_is_place)
  b_is_place : Binds K fd_is_place ["value"] []
  f_need_word : Addr
  fd_need_word : FuncData
  F_need_word : Fun K "need_word" "need_word" s_need_word f_need_word fd_need_word
  g_need_word : mg "need_word" = some (.ref f_need_word)
  b_need_word : Binds K fd_need_word ["value"] []
  f_need_place : Addr
  fd_need_place : FuncData
  F_need_place : Fun K "need_place" "need_place" s_need_place f_need_place fd_need_place
  g_need_place : mg "need_place" = some (.ref f_need_place)
  b_need_place : Binds K fd_need_place ["value"] []
  f_Queues_init : Addr
  fd_Queues_init : FuncData
  F_Queues_init : Fun K "__init__" "Queues.__init__" s_Queues_init f_Queues_init fd_Queues_init
  b_Queues_init : Binds K fd_Queues_init ["self", "loads", "stores"] []
  mk_Queues : Mk K C_Queues f_Queues_init
  f_Queues_can_load : Addr
  fd_Queues_can_load : FuncData
  F_Queues_can_load : Fun K "can_load" "Queues.can_load" s_Queues_can_load f_Queues_can_load fd_Queues_can_load
  b_Queues_can_load : Binds K fd_Queues_can_load ["self"] []
  pa_Queues_can_load : Addr
  p_Queues_can_load : PropOf K C_Queues "can_load" pa_Queues_can_load f_Queues_can_load
  f_Queues_can_store : Addr
  fd_Queues_can_store : FuncData
  F_Queues_can_store : Fun K "can_store" "Queues.can_store" s_Queues_can_store f_Queues_can_store fd_Queues_can_store
  b_Queues_can_store : Binds K fd_Queues_can_store ["self"] []
  pa_Queues_can_store : Addr
  p_Queues_can_store : PropOf K C_Queues "can_store" pa_Queues_can_store f_Queues_can_store
  f_Queues_load_entered : Addr
  fd_Queues_load_entered : FuncData
  F_Queues_load_entered : Fun K "load_entered" "Queues.load_entered" s_Queues_load_entered f_Queues_load_entered fd_Queues_load_entered
  b_Queues_load_entered : Binds K fd_Queues_load_entered ["self", "number"] []
  me_Queues_load_entered : Meth K C_Queues "load_entered" f_Queues_load_entered
  f_Queues_store_entered : Addr
  fd_Queues_store_entered : FuncData
  F_Queues_store_entered : Fun K "store_entered" "Queues.store_entered" s_Queues_store_entered f_Queues_store_entered fd_Queues_store_entered
  b_Queues_store_entered : Binds K fd_Queues_store_entered ["self", "number"] []
  kb_Queues_store_entered : KBinds K fd_Queues_store_entered ["self", "number"] ["number"] kwM kwM
  me_Queues_store_entered : Meth K C_Queues "store_entered" f_Queues_store_entered
  f_Queues_known : Addr
  fd_Queues_known : FuncData
  F_Queues_known : Fun K "known" "Queues.known" s_Queues_known f_Queues_known fd_Queues_known
  b_Queues_known : Binds K fd_Queues_known ["self", "number", "place", "word"] []
  me_Queues_known : Meth K C_Queues "known" f_Queues_known
  f_Queues_source : Addr
  fd_Queues_source : FuncData
  F_Queues_source : Fun K "source" "Queues.source" s_Queues_source f_Queues_source fd_Queues_source
  b_Queues_source : Binds K fd_Queues_source ["self", "number", "place"] []
  me_Queues_source : Meth K C_Queues "source" f_Queues_source
  f_Queues_read : Addr
  fd_Queues_read : FuncData
  F_Queues_read : Fun K "read" "Queues.read" s_Queues_read f_Queues_read fd_Queues_read
  b_Queues_read : Binds K fd_Queues_read ["self", "number", "place", "source"] []
  me_Queues_read : Meth K C_Queues "read" f_Queues_read
  f_Queues_leave : Addr
  fd_Queues_leave : FuncData
  F_Queues_leave : Fun K "leave" "Queues.leave" s_Queues_leave f_Queues_leave fd_Queues_leave
  b_Queues_leave : Binds K fd_Queues_leave ["self", "number"] []
  me_Queues_leave : Meth K C_Queues "leave" f_Queues_leave
  f_Queues_dropped : Addr
  fd_Queues_dropped : FuncData
  F_Queues_dropped : Fun K "dropped" "Queues.dropped" s_Queues_dropped f_Queues_dropped fd_Queues_dropped
  b_Queues_dropped : Binds K fd_Queues_dropped ["self", "number"] []
  kb_Queues_dropped : KBinds K fd_Queues_dropped ["self", "number"] ["number"] kwM kwM
  me_Queues_dropped : Meth K C_Queues "dropped" f_Queues_dropped
  f_Queues_loads : Addr
  fd_Queues_loads : FuncData
  F_Queues_loads : Fun K "loads" "Queues.loads" s_Queues_loads f_Queues_loads fd_Queues_loads
  b_Queues_loads : Binds K fd_Queues_loads ["self"] []
  me_Queues_loads : Meth K C_Queues "loads" f_Queues_loads
  f_Queues_stores : Addr
  fd_Queues_stores : FuncData
  F_Queues_stores : Fun K "stores" "Queues.stores" s_Queues_stores f_Queues_stores fd_Queues_stores
  b_Queues_stores : Binds K fd_Queues_stores ["self"] []
  me_Queues_stores : Meth K C_Queues "stores" f_Queues_stores
  f_Queues_copy : Addr
  fd_Queues_copy : FuncData
  F_Queues_copy : Fun K "copy" "Queues.copy" s_Queues_copy f_Queues_copy fd_Queues_copy
  b_Queues_copy : Binds K fd_Queues_copy ["self"] []
  me_Queues_copy : Meth K C_Queues "copy" f_Queues_copy
  f_Queues_eq : Addr
  fd_Queues_eq : FuncData
  F_Queues_eq : Fun K "__eq__" "Queues.__eq__" s_Queues_eq f_Queues_eq fd_Queues_eq
  b_Queues_eq : Binds K fd_Queues_eq ["self", "other"] []
  me_Queues_eq : Meth K C_Queues "__eq__" f_Queues_eq
  f_Queuesall_numbers : Addr
  fd_Queuesall_numbers : FuncData
  F_Queuesall_numbers : Fun K "_all_numbers" "Queues._all_numbers" s_Queuesall_numbers f_Queuesall_numbers fd_Queuesall_numbers
  b_Queuesall_numbers : Binds K fd_Queuesall_numbers ["self"] []
  me_Queuesall_numbers : Meth K C_Queues "_all_numbers" f_Queuesall_numbers
  f_Queuesneed_above_all : Addr
  fd_Queuesneed_above_all : FuncData
  F_Queuesneed_above_all : Fun K "_need_above_all" "Queues._need_above_all" s_Queuesneed_above_all f_Queuesneed_above_all fd_Queuesneed_above_all
  b_Queuesneed_above_all : Binds K fd_Queuesneed_above_all ["self", "value"] []
  me_Queuesneed_above_all : Meth K C_Queues "_need_above_all" f_Queuesneed_above_all
  f_Queuesis_source : Addr
  fd_Queuesis_source : FuncData
  F_Queuesis_source : Fun K "_is_source" "Queues._is_source" s_Queuesis_source f_Queuesis_source fd_Queuesis_source
  b_Queuesis_source : Binds K fd_Queuesis_source ["self", "value", "number", "place"] []
  me_Queuesis_source : Meth K C_Queues "_is_source" f_Queuesis_source
  f__is_one_of : Addr
  fd__is_one_of : FuncData
  F__is_one_of : Fun K "_is_one_of" "_is_one_of" s__is_one_of f__is_one_of fd__is_one_of
  g__is_one_of : mg "_is_one_of" = some (.ref f__is_one_of)
  b__is_one_of : Binds K fd__is_one_of ["queue", "value"] []
  f__need_one_of : Addr
  fd__need_one_of : FuncData
  F__need_one_of : Fun K "_need_one_of" "_need_one_of" s__need_one_of f__need_one_of fd__need_one_of
  g__need_one_of : mg "_need_one_of" = some (.ref f__need_one_of)
  b__need_one_of : Binds K fd__need_one_of ["queue", "value"] []
  f_Lpot : Addr
  fd_Lpot : FuncData
  F_Lpot : Fun K "_law_pot" "_law_pot" s_Lpot f_Lpot fd_Lpot
  g_Lpot : mg "_law_pot" = some (.ref f_Lpot)
  b_Lpot : Binds K fd_Lpot ["_law_script", "_law_k"] []
  f_Ldraw : Addr
  fd_Ldraw : FuncData
  F_Ldraw : Fun K "_law_draw" "_law_draw" s_Ldraw f_Ldraw fd_Ldraw
  g_Ldraw : mg "_law_draw" = some (.ref f_Ldraw)
  b_Ldraw : Binds K fd_Ldraw ["_law_pot_here", "_law_size"] []
  f_Lpick : Addr
  fd_Lpick : FuncData
  F_Lpick : Fun K "_law_pick" "_law_pick" s_Lpick f_Lpick fd_Lpick
  g_Lpick : mg "_law_pick" = some (.ref f_Lpick)
  b_Lpick : Binds K fd_Lpick ["_law_pot_here", "_law_some"] []
  f_Lsource : Addr
  fd_Lsource : FuncData
  F_Lsource : Fun K "_law_source" "_law_source" s_Lsource f_Lsource fd_Lsource
  g_Lsource : mg "_law_source" = some (.ref f_Lsource)
  b_Lsource : Binds K fd_Lsource ["_law_stores", "_law_number", "_law_place"] []
  f_Learly : Addr
  fd_Learly : FuncData
  F_Learly : Fun K "_law_early" "_law_early" s_Learly f_Learly fd_Learly
  g_Learly : mg "_law_early" = some (.ref f_Learly)
  b_Learly : Binds K fd_Learly ["_law_loads", "_law_number", "_law_place"] []
  f_Ltold_right : Addr
  fd_Ltold_right : FuncData
  F_Ltold_right : Fun K "_law_told_right" "_law_told_right" s_Ltold_right f_Ltold_right fd_Ltold_right
  g_Ltold_right : mg "_law_told_right" = some (.ref f_Ltold_right)
  b_Ltold_right : Binds K fd_Ltold_right ["_law_queues", "_law_rooms", "_law_loads", "_law_stores"] []
  f_Ldeed : Addr
  fd_Ldeed : FuncData
  F_Ldeed : Fun K "_law_deed" "_law_deed" s_Ldeed f_Ldeed fd_Ldeed
  g_Ldeed : mg "_law_deed" = some (.ref f_Ldeed)
  b_Ldeed : Binds K fd_Ldeed ["_law_pot_here", "_law_queues", "_law_rooms", "_law_loads", "_law_stores", "_law_next_one"] []
  f_Lright : Addr
  fd_Lright : FuncData
  F_Lright : Fun K "_law_right" "_law_right" s_Lright f_Lright fd_Lright
  g_Lright : mg "_law_right" = some (.ref f_Lright)
  b_Lright : Binds K fd_Lright ["_law_pot_here"] []
  f_law : Addr
  fd_law : FuncData
  F_law : Fun K "law" "law" s_law f_law fd_law
  g_law : mg "law" = some (.ref f_law)
  b_law : Binds K fd_law ["_law_script"] []
  m_abs : mg "abs" = none
  m_any : mg "any" = none
  m_bool : mg "bool" = none
  m_dict : mg "dict" = none
  m_divmod : mg "divmod" = none
  m_enumerate : mg "enumerate" = none
  m_int : mg "int" = none
  m_isinstance : mg "isinstance" = none
  m_len : mg "len" = none
  m_list : mg "list" = none
  m_max : mg "max" = none
  m_min : mg "min" = none
  m_range : mg "range" = none
  m_sorted : mg "sorted" = none
  c_WORDS : ∃ t, mg "WORDS" = some (.int 65536 t)
  c_PLACES : ∃ t, mg "PLACES" = some (.int 1024 t)
  c__MOST_ROOMS : ∃ t, mg "_MOST_ROOMS" = some (.int 8 t)
  aN : Addr
  gN : mg "_NOTHING" = some (.ref aN)
  lN : ∃ n, K.lookup aN = some ⟨.type "tuple", none, .seq #[.none, .none] n, #[]⟩
  ic_Queues : PySem.W.findIn K (.ref C_Queues) "__class__" = some (some (.builtin "object.__class__"))
  in_Queues : PySem.W.specialIn K (.builtin "object.__class__") "__get__" = some (some (.builtin "getset_descriptor.__get__"))
  it_Queues : PySem.W.takesIn K (.builtin "object.__class__") = some true
  im_Queues : PySem.W.mroIn K C_Queues (.type "object") = some true
  sl_Queues : PySem.W.subIn K (.type "list") (.ref C_Queues) = some false
  ik_Queues : PySem.W.isClsIn K C_Queues = true
  ty_Queues : PySem.W.typeIn K (.ref C_Queues) = some (.type "type")
  ne_Queues : PySem.W.findIn K (.ref C_Queues) "__ne__" = some (some (.builtin "object.__ne__"))
  so_Queues : PySem.W.subIn K (.ref C_Queues) (.type "object") = some true
abbrev QR := Int × Option Int × Option Int
def oV : Option Int → V
  | none => .non
  | some i => .int i
def oD : Option Int → PyData
  | none => .none
  | some i => .int i
def ik (rs : List (Int × PyData)) : List (Key × PyData) := rs.map fun r => (Sum.inl r.1, r.2)
def qD (rs : List QR) : List (Int × PyData) := rs.map fun r => (r.1, .tuple [oD r.2.1, oD r.2.2])
def rD (r : QR) : PyData := .tuple [.int r.1, oD r.2.1, oD r.2.2]
def qu (C x dx l s : Addr) (a b : Int) (ls ss : List QR) : List (Addr × Ob) := [(x, .raw (.ins C dx (F_Queues (.int a) (.int b) (.ref l) (.ref s)))), (l, .D (ik (qD ls))), (s, .D (ik (qD ss)))]

end K76

set_option Elab.async false
set_option linter.all false
set_option maxRecDepth 100000
set_option maxHeartbeats 8000000

namespace K76
open PySem PySem.Spec PyProof.Rows L2 Hx 
local macro_rules | `(tactic| walk_at "sm") => `(tactic| repeat' (first | assumption | apply Hx.Same.upd | exact L2.Same.refl _ | apply same_trans'))
local macro_rules | `(tactic| walk_at "hp") => `(tactic| repeat' (first | assumption | exact upd_same | apply old_upd | apply same_at))
local macro_rules | `(tactic| walk_at "rd") => `(tactic| repeat' (first | rfl | apply Exists.intro | apply And.intro | refine iteT ?_ | refine iteF ?_ | exact upd_same | exact SqL.of (by assumption) | exact SqL.of upd_same | exact SqT.of upd_same | exact SqT.of (by assumption) | ((with_reducible show (_ : Int) < _); omega) | ((with_reducible show (_ : Int) ≤ _); omega) | (show (_ : Prop); assumption) | exact Or.inl ⟨_, by assumption, rfl⟩ | exact Or.inl ⟨rfl, _, SqL.of (by assumption)⟩ | exact Or.inl ⟨rfl, _, SqL.of upd_same⟩ | apply old_upd | apply Hx.SqL.new | apply tyl_new | apply Pot.new | exact same_at (by assumption) (by assumption) | exact Or.inl (SqL.of (by assumption)) | exact Or.inl (by assumption) | exact Or.inl (SqL.of upd_same) | exact size_le (Nat.le_of_ble_eq_true rfl) | exact Nat.le_of_ble_eq_true rfl | exact True.intro | exact Or.inl rfl | exact Or.inr rfl | (show (_ : Prop); omega) | (show (_ : Prop); dsimp only; omega) | exact mulw64 (by omega) (by omega) | exact mulw64 (by (try dsimp only); omega) (by (try dsimp only); omega)))
set_option hygiene false in
local macro_rules | `(tactic| walk_at "fl") => `(tactic| simp only [pu_Queues_load_rooms, pi_Queues_load_rooms, pu_Queues_store_rooms, pi_Queues_store_rooms, pu_Queues_loads, pi_Queues_loads, pu_Queues_stores, pi_Queues_stores] at hO)
local macro_rules | `(tactic| walk_at "mem") => `(tactic| ((repeat (first | exact List.Mem.head _ | apply List.Mem.tail | fail)); done))
local macro_rules | `(tactic| walk_at "setat") => `(tactic| ((repeat (first | (with_reducible exact At.head) | (with_reducible apply At.tail) | (with_reducible apply At.app) | fail)); done))
set_option hygiene false in
local macro_rules | `(tactic| walk_at "dv") => `(tactic| ((repeat' (first | exact Dv.nil | exact Dv.of (by walk_at "mem") | exact Dv.ints _ | exact Dv1.of (by walk_at "mem") | exact Dv1.int _ | exact Dv1.non | exact Dv1.bl _ | exact Dv1.str _ | (with_reducible apply Dv.cons) | refine Dv1.tup (by walk_at "mem") ?_ | refine Dv1.lst (by walk_at "mem") ?_ | (with_reducible apply Dv.app) | fail)); done))
local macro_rules | `(tactic| walk_at "ft") => `(tactic| (first | (with_reducible exact Ft.refl) | ((with_reducible apply Ft.toL); focus walk_at "dv") | ((with_reducible apply Ft.toS); focus assumption) | (with_reducible apply Ft.lst) | (with_reducible apply Ft.Le) | (with_reducible apply Ft.dK) | (with_reducible apply Ft.De) | (with_reducible apply Ft.ins) | (with_reducible apply Ft.toL) | (with_reducible apply Ft.toS) | (with_reducible apply Ft.toD) | fail))
local macro_rules | `(tactic| walk_at "sbL") => `(tactic| repeat' (first | (with_reducible exact Sb.refl _) | exact Sb.nil | (with_reducible apply Sb.cons) | (with_reducible apply Sb.app) | (with_reducible exact Pk.one) | (with_reducible exact Pk.here) | (with_reducible exact Pk.all) | (with_reducible apply Pk.skip1) | (with_reducible apply Pk.skipB) | (with_reducible apply Sb.skip) | (with_reducible apply Sb.skipB) | ((with_reducible show Ft _ _ _ _); walk_at "ft") | ((with_reducible show (_ : List _) = _); (first | rfl | (simp [List.map_set, List.map_append]; done) | fail)) | fail))
local macro_rules | `(tactic| walk_at "sb") => `(tactic| ((walk_at "sbL"); done))
local macro_rules | `(tactic| walk_at "ps") => `(tactic| ((repeat' (first | (with_reducible exact Ps.refl) | exact Ps.nil | (with_reducible apply Ps.cons) | exact List.Mem.head _ | apply List.Mem.tail | (with_reducible apply Ps.skip) | fail)); done))
set_option hygiene false in
local macro_rules | `(tactic| walk_at "at") => `(tactic| first | assumption | exact Own.raw hO (by walk_at "mem") | exact Own.ptup hO (by walk_at "mem") | exact Own.plst hO (by walk_at "mem") | fail)
set_option hygiene false in
local macro_rules | `(tactic| walk_at "st") => `(tactic| (rw [upd_mkO hO]; generalize e : updX _ _ _ = H1; (first | ((apply Own.cset hO e); (focus walk_at "setat"); (try clear hO e); intro hO) | ((apply Own.cnewT hO e); (focus assumption); (try clear hO e); intro hO) | ((apply Own.cnew hO e); (focus assumption); (try clear hO e); intro hO) | fail)))
set_option hygiene false in
local macro_rules | `(tactic| walk_at "mk") => `(tactic| (intro p1 p2 f1 f2 f3; rw [upd_mkO hO]; generalize e : upd (updX _ _ _) _ _ = H1; apply Own.cmake hO f1 f2 f3 e; (try clear hO e); intro hO))
set_option hygiene false in
local macro_rules | `(tactic| walk_at "own") => `(tactic| (first | ((apply Own.sub hO); (focus walk_at "sb"); (focus walk_at "ps")) | ((apply Own.sub hF); (focus walk_at "sb"); (focus walk_at "ps")) | fail))
set_option hygiene false in
local macro_rules | `(tactic| walk_at "fin") => `(tactic| (refine Own.sub hO ?_ (by walk_at "ps"); walk_at "sbL"))
set_option hygiene false in
local macro_rules | `(tactic| walk_at "g1") => `(tactic| (first
 | ((with_reducible show (_ : Option HO) = _); walk_at "at")
 | ((with_reducible show (_ : Int) < _); omega) | ((with_reducible show (_ : Int) ≤ _); omega)
 | ((with_reducible show (_ : Nat) < _); (first | assumption | exact Nat.le_of_ble_eq_true rfl | exact size_lt (Nat.le_of_ble_eq_true rfl) | omega | (simp; done) | (simp; omega) | fail))
 | ((with_reducible show (_ : Nat) ≤ _); (first | assumption | exact Nat.le_of_ble_eq_true rfl | exact size_le (Nat.le_of_ble_eq_true rfl) | omega | (simp; done) | (simp; omega) | fail))
 | ((with_reducible show Own _ _ _ _); (first | walk_at "own" | (walk_at "st"; walk_at "own") | fail))
 | ((with_reducible show SqL _ _ _ _); (first | assumption | exact SqL.of (by walk_at "at") | fail))
 | ((with_reducible show SqT _ _ _ _); (first | assumption | exact hO.psq (by walk_at "mem") | exact SqT.of (by walk_at "at") | fail))
  | ((with_reducible show Cls _ _); exact Txt.cl_Queues T) | ((with_reducible show NoAttr _ _ _); exact Txt.n_Queues_load_rooms T) | (with_reducible exact gt_Queues_load_rooms) | ((with_reducible show NoAttr _ _ _); exact Txt.n_Queues_store_rooms T) | (with_reducible exact gt_Queues_store_rooms) | ((with_reducible show NoAttr _ _ _); exact Txt.n_Queues_loads T) | (with_reducible exact gt_Queues_loads) | ((with_reducible show NoAttr _ _ _); exact Txt.n_Queues_stores T) | (with_reducible exact gt_Queues_stores)  | ((with_reducible show V.ref _ = V.ref _); (first | rfl | fail))
 | ((with_reducible show DGet _ _ _ _); (first | exact DGet.ki (by walk_at "at") (by assumption) | exact DGet.kiF (by walk_at "at") (by assumption) | fail))
 | ((with_reducible show DPut _ _ _ _ _); exact DPut.ki (by walk_at "at") (by assumption))
 | ((with_reducible show Rd _ _ _); (first | exact Or.inl (by walk_at "at") | exact Or.inr ⟨_, by walk_at "at"⟩ | fail))
 | ((with_reducible show (∃ _ : List (Key × V), _) ∨ _); refine Or.inl ⟨_, by walk_at "at", ?_⟩)
 | ((with_reducible show Dv _ _ _ _); focus walk_at "dv") | ((with_reducible show Dv1 _ _ _ _); focus walk_at "dv")
 | ((with_reducible show IsD _ _); exact Or.inl ⟨_, Or.inl (by walk_at "at")⟩)
 | ((with_reducible show V.int _ = kV _); exact kV_int)
 | ((with_reducible show Option.isSome _ = true); (first | exact isSome_ofV (by assumption) | assumption | fail))
 | ((with_reducible show SqL _ _ _ _ ∨ SqT _ _ _ _); (first | exact Or.inl (by assumption) | exact Or.inr (by assumption) | exact Or.inl (SqL.of (by walk_at "at")) | exact Or.inr (SqT.of (by walk_at "at")) | fail))
 | ((with_reducible show Dp _ _ _ _); (first | assumption | exact hO.dpL (by walk_at "mem") | exact .lst (SqL.of (by walk_at "at")) (hO.all (by walk_at "dv")) | exact hO.one (by walk_at "dv") | fail))
 | ((with_reducible show TruV _ _ _ _); (first | exact Or.inl ⟨_, SqL.of (by walk_at "at"), rfl⟩ | exact Or.inr (Or.inr ⟨_, by walk_at "at", rfl⟩) | exact Or.inr (Or.inl ⟨_, SqT.of (by walk_at "at"), rfl⟩) | fail))
 | ((with_reducible show RgOk _ _); exact RgOk.of_le (by omega) (by omega) (by omega) (by omega))
 | rfl | (with_reducible assumption) | apply And.intro | apply Exists.intro | refine iteT ?_ | refine iteF ?_
 | (walk_at "st"; (try walk_at "fl"))
 | ((with_reducible show ∀ _ : Addr, _ = none → _); (fail_if_success (with_reducible show ∀ _ : Addr, _ = none → ∃ _ : Nat → Nat → Hp → Prop, _)); intro p fp; walk_at "st")
 | (refine Or.inl ⟨SqL.of (by walk_at "at"), ?_⟩) | (refine Or.inr ⟨SqT.of (by walk_at "at"), ?_⟩) | exact Or.inl ⟨_, by walk_at "at", rfl⟩ | exact Or.inl ⟨rfl, _, SqL.of (by walk_at "at")⟩ | exact tyl_of (by walk_at "at") | exact Or.inl (SqL.of (by walk_at "at")) | exact Or.inr (SqT.of (by walk_at "at")) | exact Or.inl (by walk_at "at") | exact size_le (Nat.le_of_ble_eq_true rfl) | exact Nat.le_of_ble_eq_true rfl | exact True.intro | exact Or.inl rfl | exact Or.inr rfl | (show (_ : Prop); assumption) | (show (_ : Prop); omega) | (show (_ : Prop); dsimp only; omega) | exact mulw64 (by omega) (by omega) | exact mulw64 (by (try dsimp only); omega) (by (try dsimp only); omega) | fail))
local macro_rules | `(tactic| walk_at "go") => `(tactic| repeat walk_at "g1")

section
variable {P : Program} {w : World} {K : PySem.W.Frag} {mg : Str → Option Value} {base : Heap}
def sp_is_integer : Sp := fun vs H Q _ => ∃ i : Int, vs = [.int i] ∧ Q (.bl true) H
theorem ok_is_integer (T : Txt K mg) : FnOk P w K mg base CX0 1 T.f_is_integer T.fd_is_integer ["value"] (sp_is_integer) := by
  refine T.F_is_integer.ok sc_is_integer (fun vs H Q E h => ?_) (fun cdv A outer s H vs Q E hr h => ?_)
  · obtain ⟨i, rfl, k⟩ := h; rfl
  · obtain ⟨i, rfl, k⟩ := h
    refine ⟨_, (pss_one (ps_ret (pe_and (pe_callB call_isi (by rfl) T.m_isinstance (by decide +kernel) (pa_cons (pv 0) (pa_cons (pe_bltn (v := .ty "int") (u := .type "int") (by rfl) T.m_int (by decide +kernel) rfl) pa_nil))) (pe_one (pe_not (pe_callB call_isi (by rfl) T.m_isinstance (by decide +kernel) (pa_cons (pv 0) (pa_cons (pe_bltn (v := .ty "bool") (u := .type "bool") (by rfl) T.m_bool (by decide +kernel) rfl) pa_nil)))))))), ?_⟩
    clear hr
    refine ⟨_, rfl, _, _, _, _, true, rfl, .ty _, .base (.int _), kit_ty (by decide +kernel), true, rfl, iteT ?_⟩
    refine ⟨_, rfl, _, _, _, _, false, rfl, .ty _, .base (.int _), kit_ty (by decide +kernel), false, rfl, k⟩
def sp_is_count : Sp := fun vs H Q _ => ∃ i : Int, vs = [.int i] ∧ 0 ≤ i ∧ Q (.bl true) H
theorem ok_is_count (T : Txt K mg) : FnOk P w K mg base CX0 2 T.f_is_count T.fd_is_count ["value"] (sp_is_count) := by
  have G_is_integer := ok_is_integer (P := P) (w := w) (base := base) T
  refine T.F_is_count.ok sc_is_count (fun vs H Q E h => ?_) (fun cdv A outer s H vs Q E hr h => ?_)
  · obtain ⟨i, rfl, hi, k⟩ := h; rfl
  · obtain ⟨i, rfl, hi, k⟩ := h
    refine ⟨_, (pss_one (ps_ret (pe_and (pe_call G_is_integer (hr.mono (by decide)) rfl T.g_is_integer T.F_is_integer.kp T.b_is_integer .nil pass0 (pa_cons (pv 0) pa_nil)) (pe_one (pe_cmpR op_ge (pv 0) pe_int (nomark _)))))), ?_⟩
    clear G_is_integer
    clear hr
    walk_at "rd"
    exact qbl k (decide_eq_true (by omega))
def sp_is_between : Sp := fun vs H Q _ => ∃ i a b : Int, vs = [.int i, .int a, .int b] ∧ Q (.bl (decide (a ≤ i ∧ i ≤ b))) H
theorem ok_is_between (T : Txt K mg) : FnOk P w K mg base CX0 2 T.f_is_between T.fd_is_between ["value", "least", "most"] (sp_is_between) := by
  have G_is_integer := ok_is_integer (P := P) (w := w) (base := base) T
  refine T.F_is_between.ok sc_is_between (fun vs H Q E h => ?_) (fun cdv A outer s H vs Q E hr h => ?_)
  · obtain ⟨i, a, b, rfl, k⟩ := h; rfl
  · obtain ⟨i, a, b, rfl, k⟩ := h
    refine ⟨_, (pss_one (ps_ret (pe_and (pe_call G_is_integer (hr.mono (by decide)) rfl T.g_is_integer T.F_is_integer.kp T.b_is_integer .nil pass0 (pa_cons (pv 0) pa_nil)) (pe_one (pe_chain op_le op_le (pv 1) (pv 0) (pv 2)))))), ?_⟩
    clear G_is_integer
    clear hr
    walk_at "rd"
    refine iteD (fun h1 => ?_) (fun h1 => ?_)
    · walk_at "rd"; exact qbl k (by simp [h1])
    · exact qbl k (by simp [h1])
def sp_need_many : Sp := fun vs H Q _ => ∃ i a b : Int, vs = [.int i, .int a, .int b] ∧ a ≤ i ∧ i ≤ b ∧ Q .non H
theorem ok_need_many (T : Txt K mg) : FnOk P w K mg base CX0 3 T.f_need_many T.fd_need_many ["value", "least", "most"] (sp_need_many) := by
  have G_is_between := ok_is_between (P := P) (w := w) (base := base) T
  refine T.F_need_many.ok sc_need_many (fun vs H Q E h => ?_) (fun cdv A outer s H vs Q E hr h => ?_)
  · obtain ⟨i, a, b, rfl, h1, h2, k⟩ := h; rfl
  · obtain ⟨i, a, b, rfl, h1, h2, k⟩ := h
    refine ⟨_, (pss_one (ps_if (pt_not (pt_val (pe_call G_is_between (hr.mono (by decide)) rfl T.g_is_between T.F_is_between.kp T.b_is_between .nil pass0 (pa_cons (pv 0) (pa_cons (pv 1) (pa_cons (pv 2) pa_nil))))))
          (pss_one ps_never)
          pss_nil)), ?_⟩
    clear G_is_between
    clear hr
    walk_at "rd"
    rw [decide_eq_true (show a ≤ i ∧ i ≤ b from ⟨h1, h2⟩)]
    walk_at "rd"
def sp_need_number : Sp := fun vs H Q _ => ∃ i : Int, vs = [.int i] ∧ 0 ≤ i ∧ Q .non H
theorem ok_need_number (T : Txt K mg) : FnOk P w K mg base CX0 3 T.f_need_number T.fd_need_number ["value"] (sp_need_number) := by
  have G_is_count := ok_is_count (P := P) (w := w) (base := base) T
  refine T.F_need_number.ok sc_need_number (fun vs H Q E h => ?_) (fun cdv A outer s H vs Q E hr h => ?_)
  · obtain ⟨i, rfl, hi, k⟩ := h; rfl
  · obtain ⟨i, rfl, hi, k⟩ := h
    refine ⟨_, (pss_one (ps_if (pt_not (pt_val (pe_call G_is_count (hr.mono (by decide)) rfl T.g_is_count T.F_is_count.kp T.b_is_count .nil pass0 (pa_cons (pv 0) pa_nil))))
          (pss_one ps_never)
          pss_nil)), ?_⟩
    clear G_is_count
    clear hr
    walk_at "rd"
def sp_is_word : Sp := fun vs H Q _ => ∃ i : Int, vs = [.int i] ∧ (0 ≤ i ∧ i < 65536) ∧ Q (.bl true) H
theorem ok_is_word (T : Txt K mg) : FnOk P w K mg base CX0 3 T.f_is_word T.fd_is_word ["value"] (sp_is_word) := by
  have G_is_between := ok_is_between (P := P) (w := w) (base := base) T
  refine T.F_is_word.ok sc_is_word (fun vs H Q E h => ?_) (fun cdv A outer s H vs Q E hr h => ?_)
  · obtain ⟨i, rfl, hi, k⟩ := h; rfl
  · obtain ⟨i, rfl, hi, k⟩ := h
    refine ⟨_, (pss_one (ps_ret (pe_call G_is_between (hr.mono (by decide)) rfl T.g_is_between T.F_is_between.kp T.b_is_between .nil pass0 (pa_cons (pv 0) (pa_cons pe_int (pa_cons (pe_op op_sub (pe_gint rfl T.c_WORDS) pe_int) pa_nil)))))), ?_⟩
    clear G_is_between
    clear hr
    walk_at "rd"
    exact qbl k (decide_eq_true (by omega))
def sp_is_place : Sp := fun vs H Q _ => ∃ i : Int, vs = [.int i] ∧ (0 ≤ i ∧ i < 1024) ∧ Q (.bl true) H
theorem ok_is_place (T : Txt K mg) : FnOk P w K mg base CX0 3 T.f_is_place T.fd_is_place ["value"] (sp_is_place) := by
  have G_is_between := ok_is_between (P := P) (w := w) (base := base) T
  refine T.F_is_place.ok sc_is_place (fun vs H Q E h => ?_) (fun cdv A outer s H vs Q E hr h => ?_)
  · obtain ⟨i, rfl, hi, k⟩ := h; rfl
  · obtain ⟨i, rfl, hi, k⟩ := h
    refine ⟨_, (pss_one (ps_ret (pe_call G_is_between (hr.mono (by decide)) rfl T.g_is_between T.F_is_between.kp T.b_is_between .nil pass0 (pa_cons (pv 0) (pa_cons pe_int (pa_cons (pe_op op_sub (pe_gint rfl T.c_PLACES) pe_int) pa_nil)))))), ?_⟩
    clear G_is_between
    clear hr
    walk_at "rd"
    exact qbl k (decide_eq_true (by omega))
def sp_need_word : Sp := fun vs H Q _ => ∃ i : Int, vs = [.int i] ∧ (0 ≤ i ∧ i < 65536) ∧ Q .non H
theorem ok_need_word (T : Txt K mg) : FnOk P w K mg base CX0 4 T.f_need_word T.fd_need_word ["value"] (sp_need_word) := by
  have G_is_word := ok_is_word (P := P) (w := w) (base := base) T
  refine T.F_need_word.ok sc_need_word (fun vs H Q E h => ?_) (fun cdv A outer s H vs Q E hr h => ?_)
  · obtain ⟨i, rfl, hi, k⟩ := h; rfl
  · obtain ⟨i, rfl, hi, k⟩ := h
    refine ⟨_, (pss_one (ps_if (pt_not (pt_val (pe_call G_is_word (hr.mono (by decide)) rfl T.g_is_word T.F_is_word.kp T.b_is_word .nil pass0 (pa_cons (pv 0) pa_nil))))
          (pss_one ps_never)
          pss_nil)), ?_⟩
    clear G_is_word
    clear hr
    walk_at "rd"
def sp_need_place : Sp := fun vs H Q _ => ∃ i : Int, vs = [.int i] ∧ (0 ≤ i ∧ i < 1024) ∧ Q .non H
theorem ok_need_place (T : Txt K mg) : FnOk P w K mg base CX0 4 T.f_need_place T.fd_need_place ["value"] (sp_need_place) := by
  have G_is_place := ok_is_place (P := P) (w := w) (base := base) T
  refine T.F_need_place.ok sc_need_place (fun vs H Q E h => ?_) (fun cdv A outer s H vs Q E hr h => ?_)
  · obtain ⟨i, rfl, hi, k⟩ := h; rfl
  · obtain ⟨i, rfl, hi, k⟩ := h
    refine ⟨_, (pss_one (ps_if (pt_not (pt_val (pe_call G_is_place (hr.mono (by decide)) rfl T.g_is_place T.F_is_place.kp T.b_is_place .nil pass0 (pa_cons (pv 0) pa_nil))))
          (pss_one ps_never)
          pss_nil)), ?_⟩
    clear G_is_place
    clear hr
    walk_at "rd"
theorem ik_len {kvs : List (Key × V)} {rs : List (Int × PyData)} (hk : kvs.map Prod.fst = (ik rs).map Prod.fst) : kvs.length = rs.length := by
  have := congrArg List.length hk
  simpa [ik] using this
theorem ik_keys {kvs : List (Key × V)} {rs : List (Int × PyData)} (hk : kvs.map Prod.fst = (ik rs).map Prod.fst) : kvs.map Prod.fst = (rs.map Prod.fst).map Sum.inl := by
  rw [hk, ik, List.map_map, List.map_map]; rfl
theorem ik_get {kvs : List (Key × V)} {rs : List (Int × PyData)} (hk : kvs.map Prod.fst = (ik rs).map Prod.fst) {i : Nat} {k : Key} {v : V} (h : kvs[i]? = some (k, v)) : ∃ r, rs[i]? = some r ∧ k = Sum.inl r.1 := by
  have e := congrArg (fun l => l[i]?) (ik_keys hk)
  simp only [List.getElem?_map, h, Option.map_some] at e
  cases e2 : rs[i]? with
  | none => rw [e2] at e; simp at e
  | some r => rw [e2] at e; simp at e; exact ⟨r, rfl, e⟩
theorem ik_drop (rs : List (Int × PyData)) (n : Int) : dropD (ik rs) (Sum.inl n) = ik (rs.filter fun r => decide (r.1 ≠ n)) := dropD_rows (fun r : Int × PyData => r.1) (fun r => r.2) rs n
theorem ik_val (rs : List (Int × PyData)) (n : Int) : valD (ik rs) (Sum.inl n) = (rs.find? fun r => decide (r.1 = n)).map Prod.snd := valD_rows (fun r : Int × PyData => r.1) (fun r => r.2) rs n
theorem ik_isSome {kvs : List (Key × V)} {rs : List (Int × PyData)} (hk : kvs.map Prod.fst = (ik rs).map Prod.fst) (n : Int) : (valV kvs (Sum.inl n)).isSome = decide (n ∈ rs.map Prod.fst) := by
  rw [valV_isSome _ hk, ik_val, Option.isSome_map]
  cases e : rs.find? fun r => decide (r.1 = n) with
  | none =>
    rw [List.find?_eq_none] at e
    refine (decide_eq_false fun h => ?_).symm
    obtain ⟨r, hr, er⟩ := List.mem_map.mp h
    exact e r hr (decide_eq_true er)
  | some r =>
    refine (decide_eq_true ?_).symm
    exact List.mem_map.mpr ⟨r, List.mem_of_find?_eq_some e, of_decide_eq_true (List.find?_some (p := fun r : Int × PyData => decide (r.1 = n)) e)⟩
def sp_isone (K : PySem.W.Frag) : Sp := fun vs H Q _ => ∃ (d : Addr) (rs : List (Int × PyData)) (n : Int) (R : List (Addr × Ob)) (P : List Pf), vs = [.ref d, .int n] ∧ Own K H ((d, .D (ik rs)) :: R) P ∧ 0 ≤ n ∧ Q (.bl (decide (n ∈ rs.map Prod.fst))) H
theorem ok__is_one_of (T : Txt K mg) : FnOk P w K mg base CX0 3 T.f__is_one_of T.fd__is_one_of ["queue", "value"] (sp_isone K) := by
  have G_is_count := ok_is_count (P := P) (w := w) (base := base) T
  refine T.F__is_one_of.ok sc__is_one_of (fun vs H Q E h => ?_) (fun cdv A outer s H vs Q E hr h => ?_)
  · obtain ⟨d, rs, n, R, P, rfl, hO, hn, k⟩ := h; rfl
  · obtain ⟨d, rs, n, R, P, rfl, hO, hn, k⟩ := h
    refine ⟨_, (pss_one (ps_ret (pe_and (pe_call G_is_count (hr.mono (by decide)) rfl T.g_is_count T.F_is_count.kp T.b_is_count .nil pass0 (pa_cons (pv 1) pa_nil)) (pe_one (pe_cmp (pc_din (hu_of hr) (pv 1) (pv 0))))))), ?_⟩
    clear G_is_count
    clear hr
    obtain ⟨kvs, hk, o1⟩ := hO.openD (a := d) (by walk_at "mem")
    replace hO := o1 _ .head
    clear o1
    obtain ⟨ov, hv⟩ : ∃ ov, valV kvs (Sum.inl n) = ov := ⟨_, rfl⟩
    have hs := ik_isSome hk n
    rw [hv] at hs
    walk_at "go"
    exact qbl k hs
def sp_needone (K : PySem.W.Frag) : Sp := fun vs H Q _ => ∃ (d : Addr) (rs : List (Int × PyData)) (n : Int) (R : List (Addr × Ob)) (P : List Pf), vs = [.ref d, .int n] ∧ Own K H ((d, .D (ik rs)) :: R) P ∧ 0 ≤ n ∧ n ∈ rs.map Prod.fst ∧ Q .non H
theorem ok__need_one_of (T : Txt K mg) : FnOk P w K mg base CX0 4 T.f__need_one_of T.fd__need_one_of ["queue", "value"] (sp_needone K) := by
  have G__is_one_of := ok__is_one_of (P := P) (w := w) (base := base) T
  refine T.F__need_one_of.ok sc__need_one_of (fun vs H Q E h => ?_) (fun cdv A outer s H vs Q E hr h => ?_)
  · obtain ⟨d, rs, n, R, P, rfl, hO, hn, hi, k⟩ := h; rfl
  · obtain ⟨d, rs, n, R, P, rfl, hO, hn, hi, k⟩ := h
    refine ⟨_, (pss_one (ps_if (pt_not (pt_val (pe_call G__is_one_of (hr.mono (by decide)) rfl T.g__is_one_of T.F__is_one_of.kp T.b__is_one_of .nil pass0 (pa_cons (pv 0) (pa_cons (pv 1) pa_nil)))))
          (pss_one ps_never)
          pss_nil)), ?_⟩
    clear G__is_one_of
    clear hr
    walk_at "go"
    rw [decide_eq_true hi]
    walk_at "go"
end
end K76

set_option Elab.async false
set_option linter.all false
set_option maxRecDepth 100000
set_option maxHeartbeats 8000000

namespace K76
open PySem PySem.Spec PyProof.Rows L2 Hx 
local macro_rules | `(tactic| walk_at "sm") => `(tactic| repeat' (first | assumption | apply Hx.Same.upd | exact L2.Same.refl _ | apply same_trans'))
local macro_rules | `(tactic| walk_at "hp") => `(tactic| repeat' (first | assumption | exact upd_same | apply old_upd | apply same_at))
local macro_rules | `(tactic| walk_at "rd") => `(tactic| repeat' (first | rfl | apply Exists.intro | apply And.intro | refine iteT ?_ | refine iteF ?_ | exact upd_same | exact SqL.of (by assumption) | exact SqL.of upd_same | exact SqT.of upd_same | exact SqT.of (by assumption) | ((with_reducible show (_ : Int) < _); omega) | ((with_reducible show (_ : Int) ≤ _); omega) | (show (_ : Prop); assumption) | exact Or.inl ⟨_, by assumption, rfl⟩ | exact Or.inl ⟨rfl, _, SqL.of (by assumption)⟩ | exact Or.inl ⟨rfl, _, SqL.of upd_same⟩ | apply old_upd | apply Hx.SqL.new | apply tyl_new | apply Pot.new | exact same_at (by assumption) (by assumption) | exact Or.inl (SqL.of (by assumption)) | exact Or.inl (by assumption) | exact Or.inl (SqL.of upd_same) | exact size_le (Nat.le_of_ble_eq_true rfl) | exact Nat.le_of_ble_eq_true rfl | exact True.intro | exact Or.inl rfl | exact Or.inr rfl | (show (_ : Prop); omega) | (show (_ : Prop); dsimp only; omega) | exact mulw64 (by omega) (by omega) | exact mulw64 (by (try dsimp only); omega) (by (try dsimp only); omega)))
set_option hygiene false in
local macro_rules | `(tactic| walk_at "fl") => `(tactic| simp only [pu_Queues_load_rooms, pi_Queues_load_rooms, pu_Queues_store_rooms, pi_Queues_store_rooms, pu_Queues_loads, pi_Queues_loads, pu_Queues_stores, pi_Queues_stores] at hO)
local macro_rules | `(tactic| walk_at "mem") => `(tactic| ((repeat (first | exact List.Mem.head _ | apply List.Mem.tail | fail)); done))
local macro_rules | `(tactic| walk_at "setat") => `(tactic| ((repeat (first | (with_reducible exact At.head) | (with_reducible apply At.tail) | (with_reducible apply At.app) | fail)); done))
set_option hygiene false in
local macro_rules | `(tactic| walk_at "dv") => `(tactic| ((repeat' (first | exact Dv.nil | exact Dv.of (by walk_at "mem") | exact Dv.ints _ | exact Dv1.of (by walk_at "mem") | exact Dv1.int _ | exact Dv1.non | exact Dv1.bl _ | exact Dv1.str _ | (with_reducible apply Dv.cons) | refine Dv1.tup (by walk_at "mem") ?_ | refine Dv1.lst (by walk_at "mem") ?_ | (with_reducible apply Dv.app) | fail)); done))
local macro_rules | `(tactic| walk_at "ft") => `(tactic| (first | (with_reducible exact Ft.refl) | ((with_reducible apply Ft.toL); focus walk_at "dv") | ((with_reducible apply Ft.toS); focus assumption) | (with_reducible apply Ft.lst) | (with_reducible apply Ft.Le) | (with_reducible apply Ft.dK) | (with_reducible apply Ft.De) | (with_reducible apply Ft.ins) | (with_reducible apply Ft.toL) | (with_reducible apply Ft.toS) | (with_reducible apply Ft.toD) | fail))
local macro_rules | `(tactic| walk_at "sbL") => `(tactic| repeat' (first | (with_reducible exact Sb.refl _) | exact Sb.nil | (with_reducible apply Sb.cons) | (with_reducible apply Sb.app) | (with_reducible exact Pk.one) | (with_reducible exact Pk.here) | (with_reducible exact Pk.all) | (with_reducible apply Pk.skip1) | (with_reducible apply Pk.skipB) | (with_reducible apply Sb.skip) | (with_reducible apply Sb.skipB) | ((with_reducible show Ft _ _ _ _); walk_at "ft") | ((with_reducible show (_ : List _) = _); (first | rfl | (simp [List.map_set, List.map_append]; done) | fail)) | fail))
local macro_rules | `(tactic| walk_at "sb") => `(tactic| ((walk_at "sbL"); done))
local macro_rules | `(tactic| walk_at "ps") => `(tactic| ((repeat' (first | (with_reducible exact Ps.refl) | exact Ps.nil | (with_reducible apply Ps.cons) | exact List.Mem.head _ | apply List.Mem.tail | (with_reducible apply Ps.skip) | fail)); done))
set_option hygiene false in
local macro_rules | `(tactic| walk_at "at") => `(tactic| first | assumption | exact Own.raw hO (by walk_at "mem") | exact Own.ptup hO (by walk_at "mem") | exact Own.plst hO (by walk_at "mem") | fail)
set_option hygiene false in
local macro_rules | `(tactic| walk_at "st") => `(tactic| (rw [upd_mkO hO]; generalize e : updX _ _ _ = H1; (first | ((apply Own.cset hO e); (focus walk_at "setat"); (try clear hO e); intro hO) | ((apply Own.cnewT hO e); (focus assumption); (try clear hO e); intro hO) | ((apply Own.cnew hO e); (focus assumption); (try clear hO e); intro hO) | fail)))
set_option hygiene false in
local macro_rules | `(tactic| walk_at "mk") => `(tactic| (intro p1 p2 f1 f2 f3; rw [upd_mkO hO]; generalize e : upd (updX _ _ _) _ _ = H1; apply Own.cmake hO f1 f2 f3 e; (try clear hO e); intro hO))
set_option hygiene false in
local macro_rules | `(tactic| walk_at "own") => `(tactic| (first | ((apply Own.sub hO); (focus walk_at "sb"); (focus walk_at "ps")) | ((apply Own.sub hF); (focus walk_at "sb"); (focus walk_at "ps")) | fail))
set_option hygiene false in
local macro_rules | `(tactic| walk_at "fin") => `(tactic| (refine Own.sub hO ?_ (by walk_at "ps"); walk_at "sbL"))
set_option hygiene false in
local macro_rules | `(tactic| walk_at "g1") => `(tactic| (first
 | ((with_reducible show (_ : Option HO) = _); walk_at "at")
 | ((with_reducible show (_ : Int) < _); omega) | ((with_reducible show (_ : Int) ≤ _); omega)
 | ((with_reducible show (_ : Nat) < _); (first | assumption | exact Nat.le_of_ble_eq_true rfl | exact size_lt (Nat.le_of_ble_eq_true rfl) | omega | (simp; done) | (simp; omega) | fail))
 | ((with_reducible show (_ : Nat) ≤ _); (first | assumption | exact Nat.le_of_ble_eq_true rfl | exact size_le (Nat.le_of_ble_eq_true rfl) | omega | (simp; done) | (simp; omega) | fail))
 | ((with_reducible show Own _ _ _ _); (first | walk_at "own" | (walk_at "st"; walk_at "own") | fail))
 | ((with_reducible show SqL _ _ _ _); (first | assumption | exact SqL.of (by walk_at "at") | fail))
 | ((with_reducible show SqT _ _ _ _); (first | assumption | exact hO.psq (by walk_at "mem") | exact SqT.of (by walk_at "at") | fail))
  | ((with_reducible show Cls _ _); exact Txt.cl_Queues T) | ((with_reducible show NoAttr _ _ _); exact Txt.n_Queues_load_rooms T) | (with_reducible exact gt_Queues_load_rooms) | ((with_reducible show NoAttr _ _ _); exact Txt.n_Queues_store_rooms T) | (with_reducible exact gt_Queues_store_rooms) | ((with_reducible show NoAttr _ _ _); exact Txt.n_Queues_loads T) | (with_reducible exact gt_Queues_loads) | ((with_reducible show NoAttr _ _ _); exact Txt.n_Queues_stores T) | (with_reducible exact gt_Queues_stores)  | ((with_reducible show V.ref _ = V.ref _); (first | rfl | fail))
 | ((with_reducible show DGet _ _ _ _); (first | exact DGet.ki (by walk_at "at") (by assumption) | exact DGet.kiF (by walk_at "at") (by assumption) | fail))
 | ((with_reducible show DPut _ _ _ _ _); exact DPut.ki (by walk_at "at") (by assumption))
 | ((with_reducible show Rd _ _ _); (first | exact Or.inl (by walk_at "at") | exact Or.inr ⟨_, by walk_at "at"⟩ | fail))
 | ((with_reducible show (∃ _ : List (Key × V), _) ∨ _); refine Or.inl ⟨_, by walk_at "at", ?_⟩)
 | ((with_reducible show Dv _ _ _ _); focus walk_at "dv") | ((with_reducible show Dv1 _ _ _ _); focus walk_at "dv")
 | ((with_reducible show IsD _ _); exact Or.inl ⟨_, Or.inl (by walk_at "at")⟩)
 | ((with_reducible show V.int _ = kV _); exact kV_int)
 | ((with_reducible show Option.isSome _ = true); (first | exact isSome_ofV (by assumption) | assumption | fail))
 | ((with_reducible show SqL _ _ _ _ ∨ SqT _ _ _ _); (first | exact Or.inl (by assumption) | exact Or.inr (by assumption) | exact Or.inl (SqL.of (by walk_at "at")) | exact Or.inr (SqT.of (by walk_at "at")) | fail))
 | ((with_reducible show Dp _ _ _ _); (first | assumption | exact hO.dpL (by walk_at "mem") | exact .lst (SqL.of (by walk_at "at")) (hO.all (by walk_at "dv")) | exact hO.one (by walk_at "dv") | fail))
 | ((with_reducible show TruV _ _ _ _); (first | exact Or.inl ⟨_, SqL.of (by walk_at "at"), rfl⟩ | exact Or.inr (Or.inr ⟨_, by walk_at "at", rfl⟩) | exact Or.inr (Or.inl ⟨_, SqT.of (by walk_at "at"), rfl⟩) | fail))
 | ((with_reducible show RgOk _ _); exact RgOk.of_le (by omega) (by omega) (by omega) (by omega))
 | rfl | (with_reducible assumption) | apply And.intro | apply Exists.intro | refine iteT ?_ | refine iteF ?_
 | (walk_at "st"; (try walk_at "fl"))
 | ((with_reducible show ∀ _ : Addr, _ = none → _); (fail_if_success (with_reducible show ∀ _ : Addr, _ = none → ∃ _ : Nat → Nat → Hp → Prop, _)); intro p fp; walk_at "st")
 | (refine Or.inl ⟨SqL.of (by walk_at "at"), ?_⟩) | (refine Or.inr ⟨SqT.of (by walk_at "at"), ?_⟩) | exact Or.inl ⟨_, by walk_at "at", rfl⟩ | exact Or.inl ⟨rfl, _, SqL.of (by walk_at "at")⟩ | exact tyl_of (by walk_at "at") | exact Or.inl (SqL.of (by walk_at "at")) | exact Or.inr (SqT.of (by walk_at "at")) | exact Or.inl (by walk_at "at") | exact size_le (Nat.le_of_ble_eq_true rfl) | exact Nat.le_of_ble_eq_true rfl | exact True.intro | exact Or.inl rfl | exact Or.inr rfl | (show (_ : Prop); assumption) | (show (_ : Prop); omega) | (show (_ : Prop); dsimp only; omega) | exact mulw64 (by omega) (by omega) | exact mulw64 (by (try dsimp only); omega) (by (try dsimp only); omega) | fail))
local macro_rules | `(tactic| walk_at "go") => `(tactic| repeat walk_at "g1")

section
variable {P : Program} {w : World} {K : PySem.W.Frag} {mg : Str → Option Value} {base : Heap}
def sp_init (K : PySem.W.Frag) (C : Addr) : Sp := fun vs H Q _ => ∃ (x dx : Addr) (a b : Int) (R : List (Addr × Ob)) (P : List Pf), vs = [.ref x, .int a, .int b] ∧ Own K H ((x, .raw (.ins C dx [])) :: R) P ∧ (1 ≤ a ∧ a ≤ 8) ∧ (1 ≤ b ∧ b ≤ 8) ∧
  ∀ (l s : Addr) (H' : Hp), Own K H' (qu C x dx l s a b [] [] ++ R) P → Q .non H'
theorem ok_Queues_init (T : Txt K mg) : FnOk P w K mg base CX0 4 T.f_Queues_init T.fd_Queues_init ["self", "loads", "stores"] (sp_init K T.C_Queues) := by
  have G_need_many := ok_need_many (P := P) (w := w) (base := base) T
  refine T.F_Queues_init.ok sc_Queues_init (fun vs H Q E h => ?_) (fun cdv A outer s H vs Q E hr h => ?_)
  · obtain ⟨x, dx, a, b, R, P, rfl, hO, ⟨ha1, ha2⟩, ⟨hb1, hb2⟩, k⟩ := h; rfl
  · obtain ⟨x, dx, a, b, R, P, rfl, hO, ⟨ha1, ha2⟩, ⟨hb1, hb2⟩, k⟩ := h
    refine ⟨_, (pss_cons (ps_expr (pe_call G_need_many (hr.mono (by decide)) rfl T.g_need_many T.F_need_many.kp T.b_need_many .nil pass0 (pa_cons (pv 1) (pa_cons pe_int (pa_cons (pe_gint rfl T.c__MOST_ROOMS) pa_nil)))))
        (pss_cons (ps_expr (pe_call G_need_many (hr.mono (by decide)) rfl T.g_need_many T.F_need_many.kp T.b_need_many .nil pass0 (pa_cons (pv 2) (pa_cons pe_int (pa_cons (pe_gint rfl T.c__MOST_ROOMS) pa_nil)))))
        (pss_cons (ps_fld (pv 0) (pv 1) rfl)
        (pss_cons (ps_fld (pv 0) (pv 2) rfl)
        (pss_cons (ps_fld (pv 0) pe_dnewK rfl)
        (pss_one (ps_fld (pv 0) pe_dnewK rfl))))))), ?_⟩
    clear G_need_many
    clear hr
    simp only [qu, List.cons_append, List.nil_append] at k
    walk_at "go"
    refine fun l fl => ?_
    walk_at "st"
    walk_at "go"
    refine fun s fs => ?_
    walk_at "st"
    walk_at "go"
    apply k
    walk_at "fin"
    all_goals exact Dv.nil
theorem qD_len (rs : List QR) : (qD rs).length = rs.length := by rw [qD, List.length_map]
def sp_canl (K : PySem.W.Frag) (C : Addr) : Sp := fun vs H Q _ => ∃ (x dx l s : Addr) (a b : Int) (ls ss : List QR) (R : List (Addr × Ob)) (P : List Pf), vs = [.ref x] ∧ Own K H (qu C x dx l s a b ls ss ++ R) P ∧ Q (.bl (decide ((ls.length : Int) < a))) H
theorem ok_Queues_can_load (T : Txt K mg) : FnOk P w K mg base CX0 1 T.f_Queues_can_load T.fd_Queues_can_load ["self"] (sp_canl K T.C_Queues) := by
  refine T.F_Queues_can_load.ok sc_Queues_can_load (fun vs H Q E h => ?_) (fun cdv A outer s H vs Q E hr h => ?_)
  · obtain ⟨x, dx, l, s, a, b, ls, ss, R, P, rfl, hO, k⟩ := h; rfl
  · obtain ⟨x, dx, l, s, a, b, ls, ss, R, P, rfl, hO, k⟩ := h
    refine ⟨_, (pss_one (ps_ret (pe_cmpR op_lt (pe_callB call_lenD (by rfl) T.m_len (by decide +kernel) (pa_cons (pe_fld (pv 0) rfl) pa_nil)) (pe_fld (pv 0) rfl) (nomark _)))), ?_⟩
    clear hr
    simp only [qu, List.cons_append, List.nil_append] at hO
    obtain ⟨kvs, hk, o1⟩ := hO.openD (a := l) (by walk_at "mem")
    replace hO := o1 _ (by walk_at "setat")
    have hl := ik_len hk
    rw [qD_len] at hl
    walk_at "go"
    exact qbl k (by rw [hl])
def sp_cans (K : PySem.W.Frag) (C : Addr) : Sp := fun vs H Q _ => ∃ (x dx l s : Addr) (a b : Int) (ls ss : List QR) (R : List (Addr × Ob)) (P : List Pf), vs = [.ref x] ∧ Own K H (qu C x dx l s a b ls ss ++ R) P ∧ Q (.bl (decide ((ss.length : Int) < b))) H
theorem ok_Queues_can_store (T : Txt K mg) : FnOk P w K mg base CX0 1 T.f_Queues_can_store T.fd_Queues_can_store ["self"] (sp_cans K T.C_Queues) := by
  refine T.F_Queues_can_store.ok sc_Queues_can_store (fun vs H Q E h => ?_) (fun cdv A outer s H vs Q E hr h => ?_)
  · obtain ⟨x, dx, l, s, a, b, ls, ss, R, P, rfl, hO, k⟩ := h; rfl
  · obtain ⟨x, dx, l, s, a, b, ls, ss, R, P, rfl, hO, k⟩ := h
    refine ⟨_, (pss_one (ps_ret (pe_cmpR op_lt (pe_callB call_lenD (by rfl) T.m_len (by decide +kernel) (pa_cons (pe_fld (pv 0) rfl) pa_nil)) (pe_fld (pv 0) rfl) (nomark _)))), ?_⟩
    clear hr
    simp only [qu, List.cons_append, List.nil_append] at hO
    obtain ⟨kvs, hk, o1⟩ := hO.openD (a := s) (by walk_at "mem")
    replace hO := o1 _ (by walk_at "setat")
    have hl := ik_len hk
    rw [qD_len] at hl
    walk_at "go"
    exact qbl k (by rw [hl])
def qkeys (rs : List QR) : List Int := rs.map fun r => r.1
theorem qD_keys (rs : List QR) : (qD rs).map Prod.fst = qkeys rs := by rw [qD, List.map_map]; rfl
theorem kvs_ints {kvs : List (Key × V)} {rs : List QR} (hk : kvs.map Prod.fst = (ik (qD rs)).map Prod.fst) : kvs.map (fun kv => kV kv.1) = (qkeys rs).map V.int := by
  have ek := ik_keys hk
  rw [qD_keys] at ek
  have := congrArg (List.map kV) ek
  rw [List.map_map, List.map_map] at this
  exact this
def sp_alln (K : PySem.W.Frag) (C : Addr) : Sp := fun vs H Q _ => ∃ (x dx l s : Addr) (a b : Int) (ls ss : List QR) (R : List (Addr × Ob)) (P : List Pf), vs = [.ref x] ∧ Own K H (qu C x dx l s a b ls ss ++ R) P ∧ ls.length ≤ 100 ∧ ss.length ≤ 100 ∧
  ∀ (p : Addr) (H' : Hp) (P' : List Pf), Ps P P' → Own K H' ((p, .raw (.lst ((qkeys ls ++ qkeys ss).map V.int))) :: (qu C x dx l s a b ls ss ++ R)) P' → Q (.ref p) H'
theorem ok_Queuesall_numbers (T : Txt K mg) : FnOk P w K mg base CX0 1 T.f_Queuesall_numbers T.fd_Queuesall_numbers ["self"] (sp_alln K T.C_Queues) := by
  refine T.F_Queuesall_numbers.ok sc_Queuesall_numbers (fun vs H Q E h => ?_) (fun cdv A outer s H vs Q E hr h => ?_)
  · obtain ⟨x, dx, l, s, a, b, ls, ss, R, P, rfl, hO, hl1, hs1, k⟩ := h; rfl
  · obtain ⟨x, dx, l, s, a, b, ls, ss, R, P, rfl, hO, hl1, hs1, k⟩ := h
    refine ⟨_, (pss_one (ps_ret (pe_op op_cat (pe_callTy (call_list_dK rfl) (by rfl) T.m_list (by decide +kernel) (pa_cons (pe_fld (pv 0) rfl) pa_nil)) (pe_callTy (call_list_dK rfl) (by rfl) T.m_list (by decide +kernel) (pa_cons (pe_fld (pv 0) rfl) pa_nil))))), ?_⟩
    clear hr
    simp only [qu, List.cons_append, List.nil_append] at hO k
    obtain ⟨kl, hk, o1⟩ := hO.openD (a := l) (by walk_at "mem")
    replace hO := o1 _ (by walk_at "setat")
    obtain ⟨ks, hk2, o2⟩ := hO.openD (a := s) (by walk_at "mem")
    replace hO := o2 _ (by walk_at "setat")
    clear o1 o2
    have e1 := kvs_ints hk
    have e2 := kvs_ints hk2
    have hsz : (kl.map fun kv => kV kv.1).length + (ks.map fun kv => kV kv.1).length ≤ sizeLine := by
      rw [e1, e2]
      exact size_le (by simp [qkeys]; omega)
    walk_at "go"
    rw [e1, e2, ← List.map_append] at hO
    refine k p _ (.dp (ks.map Prod.snd) ((ik (qD ss)).map Prod.snd) :: .dp (kl.map Prod.snd) ((ik (qD ls)).map Prod.snd) :: P) (Ps.skip (Ps.skip Ps.refl)) ?_
    walk_at "fin"
    all_goals first | exact hk | exact hk2 | exact Dv.of (by walk_at "mem")
def sp_above (K : PySem.W.Frag) (C : Addr) : Sp := fun vs H Q _ => ∃ (x dx l s : Addr) (a b n : Int) (ls ss : List QR) (R : List (Addr × Ob)) (P : List Pf), vs = [.ref x, .int n] ∧ Own K H (qu C x dx l s a b ls ss ++ R) P ∧ ls.length ≤ 100 ∧ ss.length ≤ 100 ∧ 0 ≤ n ∧ (∀ z ∈ qkeys ls ++ qkeys ss, z < n) ∧
  ∀ (H' : Hp) (P' : List Pf), Ps P P' → Own K H' (qu C x dx l s a b ls ss ++ R) P' → Q .non H'
theorem ok_Queuesneed_above_all (T : Txt K mg) : FnOk P w K mg base CX0 3 T.f_Queuesneed_above_all T.fd_Queuesneed_above_all ["self", "value"] (sp_above K T.C_Queues) := by
  have G_Queuesall_numbers := ok_Queuesall_numbers (P := P) (w := w) (base := base) T
  have G_is_count := ok_is_count (P := P) (w := w) (base := base) T
  refine T.F_Queuesneed_above_all.ok sc_Queuesneed_above_all (fun vs H Q E h => ?_) (fun cdv A outer s H vs Q E hr h => ?_)
  · obtain ⟨x, dx, l, s, a, b, n, ls, ss, R, P, rfl, hO, hl1, hs1, hn, hz, k⟩ := h; rfl
  · obtain ⟨x, dx, l, s, a, b, n, ls, ss, R, P, rfl, hO, hl1, hs1, hn, hz, k⟩ := h
    refine ⟨_, (pss_one (ps_if (PW.pt (pw_or (pt_not (pt_val (pe_call G_is_count (hr.mono (by decide)) rfl T.g_is_count T.F_is_count.kp T.b_is_count .nil pass0 (pa_cons (pv 1) pa_nil)))) (pw_or1 (pt_val (pe_callB (cr_any rfl) (by rfl) T.m_any (by decide +kernel) (pa_cons (pe_lc (own := [("number", 2)]) (g := gName 2) (tt := tYes) rfl sc_Queuesneed_above_all.nd (pi_list (pe_meth0 (pv 0) T.cl_Queues T.me_Queuesall_numbers G_Queuesall_numbers (hr.mono (by decide)) T.b_Queuesall_numbers .nil pass0)) (blkOk_by (N := ["self", "value", "number"]) (sc := defScope s_Queuesneed_above_all) (by decide +kernel)) (fun _ _ _ _ _ => pg_name (i := 2) sc_Queuesneed_above_all.nd rfl (Or.inl rfl)) (fun _ _ _ _ _ => pts_nil) (fun _ _ _ _ _ => (pe_cmpR op_ge (pv 2) (pv 1) (nomark _)))) pa_nil))))))
          (pss_one ps_never)
          pss_nil)), ?_⟩
    clear G_Queuesall_numbers G_is_count
    clear hr
    walk_at "go"
    intro p H2 P2 sp2 hO
    have hlen : (qkeys ls ++ qkeys ss).length ≤ 200 := by simp [qkeys]; omega
    generalize qkeys ls ++ qkeys ss = zs at hO hz hlen
    walk_at "go"
    intro D hD
    refine lc_rawW (walk_list (xs := zs.map V.int)) ((zs.map fun _ => false).map V.bl) hO hD (by simp) (by simp; omega) (fun H' L' P' m s o => SqL.of (o.raw (m _ List.mem_cons_self))) (fun i x y H H' P' Q hi hY hy sp hO kq => ?_) (fun H3 P3 sp3 hO => ?_)
    · obtain ⟨rfl, hx⟩ := hY
      obtain ⟨z, rfl, hz2⟩ := int_get hx
      rw [List.getElem?_map, List.getElem?_map, hz2] at hy
      obtain rfl : V.bl false = y := Option.some.inj hy
      have := hz z (List.mem_of_getElem? hz2)
      walk_at "go"
      exact qbl (kq _ _ Ps.refl hO) (decide_eq_false (by omega))
    · walk_at "go"
      have e : (zs.map fun _ => false).any id = false := by simp
      rw [e]
      walk_at "go"
      refine k _ _ (sp2.trans sp3) ?_
      walk_at "fin"
end
end K76

set_option Elab.async false
set_option linter.all false
set_option maxRecDepth 100000
set_option maxHeartbeats 8000000

namespace K76
open PySem PySem.Spec PyProof.Rows L2 Hx 
local macro_rules | `(tactic| walk_at "sm") => `(tactic| repeat' (first | assumption | apply Hx.Same.upd | exact L2.Same.refl _ | apply same_trans'))
local macro_rules | `(tactic| walk_at "hp") => `(tactic| repeat' (first | assumption | exact upd_same | apply old_upd | apply same_at))
local macro_rules | `(tactic| walk_at "rd") => `(tactic| repeat' (first | rfl | apply Exists.intro | apply And.intro | refine iteT ?_ | refine iteF ?_ | exact upd_same | exact SqL.of (by assumption) | exact SqL.of upd_same | exact SqT.of upd_same | exact SqT.of (by assumption) | ((with_reducible show (_ : Int) < _); omega) | ((with_reducible show (_ : Int) ≤ _); omega) | (show (_ : Prop); assumption) | exact Or.inl ⟨_, by assumption, rfl⟩ | exact Or.inl ⟨rfl, _, SqL.of (by assumption)⟩ | exact Or.inl ⟨rfl, _, SqL.of upd_same⟩ | apply old_upd | apply Hx.SqL.new | apply tyl_new | apply Pot.new | exact same_at (by assumption) (by assumption) | exact Or.inl (SqL.of (by assumption)) | exact Or.inl (by assumption) | exact Or.inl (SqL.of upd_same) | exact size_le (Nat.le_of_ble_eq_true rfl) | exact Nat.le_of_ble_eq_true rfl | exact True.intro | exact Or.inl rfl | exact Or.inr rfl | (show (_ : Prop); omega) | (show (_ : Prop); dsimp only; omega) | exact mulw64 (by omega) (by omega) | exact mulw64 (by (try dsimp only); omega) (by (try dsimp only); omega)))
set_option hygiene false in
local macro_rules | `(tactic| walk_at "fl") => `(tactic| simp only [pu_Queues_load_rooms, pi_Queues_load_rooms, pu_Queues_store_rooms, pi_Queues_store_rooms, pu_Queues_loads, pi_Queues_loads, pu_Queues_stores, pi_Queues_stores] at hO)
local macro_rules | `(tactic| walk_at "mem") => `(tactic| ((repeat (first | exact List.Mem.head _ | apply List.Mem.tail | fail)); done))
local macro_rules | `(tactic| walk_at "setat") => `(tactic| ((repeat (first | (with_reducible exact At.head) | (with_reducible apply At.tail) | (with_reducible apply At.app) | fail)); done))
set_option hygiene false in
local macro_rules | `(tactic| walk_at "dv") => `(tactic| ((repeat' (first | exact Dv.nil | exact Dv.of (by walk_at "mem") | exact Dv.ints _ | exact Dv1.of (by walk_at "mem") | exact Dv1.int _ | exact Dv1.non | exact Dv1.bl _ | exact Dv1.str _ | (with_reducible apply Dv.cons) | refine Dv1.tup (by walk_at "mem") ?_ | refine Dv1.lst (by walk_at "mem") ?_ | (with_reducible apply Dv.app) | fail)); done))
local macro_rules | `(tactic| walk_at "ft") => `(tactic| (first | (with_reducible exact Ft.refl) | ((with_reducible apply Ft.toL); focus walk_at "dv") | ((with_reducible apply Ft.toS); focus assumption) | (with_reducible apply Ft.lst) | (with_reducible apply Ft.Le) | (with_reducible apply Ft.dK) | (with_reducible apply Ft.De) | (with_reducible apply Ft.ins) | (with_reducible apply Ft.toL) | (with_reducible apply Ft.toS) | (with_reducible apply Ft.toD) | fail))
local macro_rules | `(tactic| walk_at "sbL") => `(tactic| repeat' (first | (with_reducible exact Sb.refl _) | exact Sb.nil | (with_reducible apply Sb.cons) | (with_reducible apply Sb.app) | (with_reducible exact Pk.one) | (with_reducible exact Pk.here) | (with_reducible exact Pk.all) | (with_reducible apply Pk.skip1) | (with_reducible apply Pk.skipB) | (with_reducible apply Sb.skip) | (with_reducible apply Sb.skipB) | ((with_reducible show Ft _ _ _ _); walk_at "ft") | ((with_reducible show (_ : List _) = _); (first | rfl | (simp [List.map_set, List.map_append]; done) | fail)) | fail))
local macro_rules | `(tactic| walk_at "sb") => `(tactic| ((walk_at "sbL"); done))
local macro_rules | `(tactic| walk_at "ps") => `(tactic| ((repeat' (first | (with_reducible exact Ps.refl) | exact Ps.nil | (with_reducible apply Ps.cons) | exact List.Mem.head _ | apply List.Mem.tail | (with_reducible apply Ps.skip) | fail)); done))
set_option hygiene false in
local macro_rules | `(tactic| walk_at "at") => `(tactic| first | assumption | exact Own.raw hO (by walk_at "mem") | exact Own.ptup hO (by walk_at "mem") | exact Own.plst hO (by walk_at "mem") | fail)
set_option hygiene false in
local macro_rules | `(tactic| walk_at "st") => `(tactic| (rw [upd_mkO hO]; generalize e : updX _ _ _ = H1; (first | ((apply Own.cset hO e); (focus walk_at "setat"); (try clear hO e); intro hO) | ((apply Own.cnewT hO e); (focus assumption); (try clear hO e); intro hO) | ((apply Own.cnew hO e); (focus assumption); (try clear hO e); intro hO) | fail)))
set_option hygiene false in
local macro_rules | `(tactic| walk_at "mk") => `(tactic| (intro p1 p2 f1 f2 f3; rw [upd_mkO hO]; generalize e : upd (updX _ _ _) _ _ = H1; apply Own.cmake hO f1 f2 f3 e; (try clear hO e); intro hO))
set_option hygiene false in
local macro_rules | `(tactic| walk_at "own") => `(tactic| (first | ((apply Own.sub hO); (focus walk_at "sb"); (focus walk_at "ps")) | ((apply Own.sub hF); (focus walk_at "sb"); (focus walk_at "ps")) | fail))
set_option hygiene false in
local macro_rules | `(tactic| walk_at "fin") => `(tactic| (refine Own.sub hO ?_ (by walk_at "ps"); walk_at "sbL"))
set_option hygiene false in
local macro_rules | `(tactic| walk_at "g1") => `(tactic| (first
 | ((with_reducible show (_ : Option HO) = _); walk_at "at")
 | ((with_reducible show (_ : Int) < _); omega) | ((with_reducible show (_ : Int) ≤ _); omega)
 | ((with_reducible show (_ : Nat) < _); (first | assumption | exact Nat.le_of_ble_eq_true rfl | exact size_lt (Nat.le_of_ble_eq_true rfl) | omega | (simp; done) | (simp; omega) | fail))
 | ((with_reducible show (_ : Nat) ≤ _); (first | assumption | exact Nat.le_of_ble_eq_true rfl | exact size_le (Nat.le_of_ble_eq_true rfl) | omega | (simp; done) | (simp; omega) | fail))
 | ((with_reducible show Own _ _ _ _); (first | walk_at "own" | (walk_at "st"; walk_at "own") | fail))
 | ((with_reducible show SqL _ _ _ _); (first | assumption | exact SqL.of (by walk_at "at") | fail))
 | ((with_reducible show SqT _ _ _ _); (first | assumption | exact hO.psq (by walk_at "mem") | exact SqT.of (by walk_at "at") | fail))
  | ((with_reducible show Cls _ _); exact Txt.cl_Queues T) | ((with_reducible show NoAttr _ _ _); exact Txt.n_Queues_load_rooms T) | (with_reducible exact gt_Queues_load_rooms) | ((with_reducible show NoAttr _ _ _); exact Txt.n_Queues_store_rooms T) | (with_reducible exact gt_Queues_store_rooms) | ((with_reducible show NoAttr _ _ _); exact Txt.n_Queues_loads T) | (with_reducible exact gt_Queues_loads) | ((with_reducible show NoAttr _ _ _); exact Txt.n_Queues_stores T) | (with_reducible exact gt_Queues_stores)  | ((with_reducible show V.ref _ = V.ref _); (first | rfl | fail))
 | ((with_reducible show DGet _ _ _ _); (first | exact DGet.ki (by walk_at "at") (by assumption) | exact DGet.kiF (by walk_at "at") (by assumption) | fail))
 | ((with_reducible show DPut _ _ _ _ _); exact DPut.ki (by walk_at "at") (by assumption))
 | ((with_reducible show Rd _ _ _); (first | exact Or.inl (by walk_at "at") | exact Or.inr ⟨_, by walk_at "at"⟩ | fail))
 | ((with_reducible show (∃ _ : List (Key × V), _) ∨ _); refine Or.inl ⟨_, by walk_at "at", ?_⟩)
 | ((with_reducible show Dv _ _ _ _); focus walk_at "dv") | ((with_reducible show Dv1 _ _ _ _); focus walk_at "dv")
 | ((with_reducible show IsD _ _); exact Or.inl ⟨_, Or.inl (by walk_at "at")⟩)
 | ((with_reducible show V.int _ = kV _); exact kV_int)
 | ((with_reducible show Option.isSome _ = true); (first | exact isSome_ofV (by assumption) | assumption | fail))
 | ((with_reducible show SqL _ _ _ _ ∨ SqT _ _ _ _); (first | exact Or.inl (by assumption) | exact Or.inr (by assumption) | exact Or.inl (SqL.of (by walk_at "at")) | exact Or.inr (SqT.of (by walk_at "at")) | fail))
 | ((with_reducible show Dp _ _ _ _); (first | assumption | exact hO.dpL (by walk_at "mem") | exact .lst (SqL.of (by walk_at "at")) (hO.all (by walk_at "dv")) | exact hO.one (by walk_at "dv") | fail))
 | ((with_reducible show TruV _ _ _ _); (first | exact Or.inl ⟨_, SqL.of (by walk_at "at"), rfl⟩ | exact Or.inr (Or.inr ⟨_, by walk_at "at", rfl⟩) | exact Or.inr (Or.inl ⟨_, SqT.of (by walk_at "at"), rfl⟩) | fail))
 | ((with_reducible show RgOk _ _); exact RgOk.of_le (by omega) (by omega) (by omega) (by omega))
 | rfl | (with_reducible assumption) | apply And.intro | apply Exists.intro | refine iteT ?_ | refine iteF ?_
 | (walk_at "st"; (try walk_at "fl"))
 | ((with_reducible show ∀ _ : Addr, _ = none → _); (fail_if_success (with_reducible show ∀ _ : Addr, _ = none → ∃ _ : Nat → Nat → Hp → Prop, _)); intro p fp; walk_at "st")
 | (refine Or.inl ⟨SqL.of (by walk_at "at"), ?_⟩) | (refine Or.inr ⟨SqT.of (by walk_at "at"), ?_⟩) | exact Or.inl ⟨_, by walk_at "at", rfl⟩ | exact Or.inl ⟨rfl, _, SqL.of (by walk_at "at")⟩ | exact tyl_of (by walk_at "at") | exact Or.inl (SqL.of (by walk_at "at")) | exact Or.inr (SqT.of (by walk_at "at")) | exact Or.inl (by walk_at "at") | exact size_le (Nat.le_of_ble_eq_true rfl) | exact Nat.le_of_ble_eq_true rfl | exact True.intro | exact Or.inl rfl | exact Or.inr rfl | (show (_ : Prop); assumption) | (show (_ : Prop); omega) | (show (_ : Prop); dsimp only; omega) | exact mulw64 (by omega) (by omega) | exact mulw64 (by (try dsimp only); omega) (by (try dsimp only); omega) | fail))
local macro_rules | `(tactic| walk_at "go") => `(tactic| repeat walk_at "g1")

section
variable {P : Program} {w : World} {K : PySem.W.Frag} {mg : Str → Option Value} {base : Heap}
theorem dvN {K : PySem.W.Frag} {mg : Str → Option Value} (T : Txt K mg) (P : List Pf) : Dv1 K P (.ref T.aN) (.tuple [.none, .none]) := by
  obtain ⟨n, h⟩ := T.lN
  exact fun M _ => .tup (.inr ⟨_, #[.none, .none], n, h, rfl, rfl, by decide, (show Vals [V.non, V.non] [Value.none, Value.none] from .cons (show RelV V.non Value.none from rfl) (.cons (show RelV V.non Value.none from rfl) .nil))⟩) (.cons .non (.cons .non .nil))
theorem find_none {rs : List QR} {n : Int} (h : n ∉ qkeys rs) : valD (ik (qD rs)) (Sum.inl n) = none := by
  rw [ik_val, Option.map_eq_none_iff, List.find?_eq_none]
  intro r hr e
  have e' : r.1 = n := of_decide_eq_true e
  obtain ⟨u, hu, rfl⟩ := List.mem_map.mp hr
  exact h (List.mem_map.mpr ⟨u, hu, e'⟩)
theorem qD_put_new {rs : List QR} {n : Int} (h : n ∉ qkeys rs) (a b : Option Int) : putD (ik (qD rs)) (Sum.inl n) (.tuple [oD a, oD b]) = ik (qD (rs ++ [(n, a, b)])) := by
  rw [putD_new (find_none h)]; simp [ik, qD]
theorem not_above {zs : List Int} {n : Int} (h : ∀ z ∈ zs, z < n) : n ∉ zs := fun m => by have := h n m; omega
def sp_loade (K : PySem.W.Frag) (C : Addr) : Sp := fun vs H Q _ => ∃ (x dx l s : Addr) (a b n : Int) (ls ss : List QR) (R : List (Addr × Ob)) (P : List Pf), vs = [.ref x, .int n] ∧ Own K H (qu C x dx l s a b ls ss ++ R) P ∧ ls.length ≤ 100 ∧ ss.length ≤ 100 ∧ 0 ≤ n ∧ (∀ z ∈ qkeys ls ++ qkeys ss, z < n) ∧ (ls.length : Int) < a ∧
  ∀ (H' : Hp) (P' : List Pf), Ps P P' → Own K H' (qu C x dx l s a b (ls ++ [(n, none, none)]) ss ++ R) P' → Q .non H'
theorem ok_Queues_load_entered (T : Txt K mg) : FnOk P w K mg base CX0 4 T.f_Queues_load_entered T.fd_Queues_load_entered ["self", "number"] (sp_loade K T.C_Queues) := by
  have G_Queuesneed_above_all := ok_Queuesneed_above_all (P := P) (w := w) (base := base) T
  have G_Queues_can_load := ok_Queues_can_load (P := P) (w := w) (base := base) T
  refine T.F_Queues_load_entered.ok sc_Queues_load_entered (fun vs H Q E h => ?_) (fun cdv A outer s H vs Q E hr h => ?_)
  · obtain ⟨x, dx, l, s, a, b, n, ls, ss, R, P, rfl, hO, hl1, hs1, hn, hz, hrm, k⟩ := h; rfl
  · obtain ⟨x, dx, l, s, a, b, n, ls, ss, R, P, rfl, hO, hl1, hs1, hn, hz, hrm, k⟩ := h
    refine ⟨_, (pss_cons (ps_expr (pe_meth (pv 0) T.cl_Queues T.me_Queuesneed_above_all G_Queuesneed_above_all (hr.mono (by decide)) T.b_Queuesneed_above_all .nil pass0 (pa_cons (pv 1) pa_nil)))
        (pss_cons (ps_if (pt_not (pt_val (pe_prop (pv 0) T.cl_Queues T.p_Queues_can_load G_Queues_can_load (hr.mono (by decide)) T.b_Queues_can_load .nil pass0 rfl)))
          (pss_one ps_never)
          pss_nil)
        (pss_one (ps_dput (hu_of hr) (pe_fld (pv 0) rfl) (pv 1) (pe_glob (v := .ref T.aN) rfl T.gN rfl) rfl)))), ?_⟩
    clear G_Queuesneed_above_all G_Queues_can_load
    clear hr
    walk_at "go"
    intro H2 P2 sp2 hO
    walk_at "go"
    rw [decide_eq_true hrm]
    simp only [qu, List.cons_append, List.nil_append] at hO k
    obtain ⟨kl, hk, o1⟩ := hO.openD (a := l) (by walk_at "mem")
    replace hO := o1 _ (by walk_at "setat")
    clear o1
    have hl := ik_len hk
    rw [qD_len] at hl
    have hni : n ∉ qkeys ls := fun m => not_above hz (List.mem_append_left _ m)
    have hv := valV_ofN hk (find_none hni)
    have szk : kl.length < sizeLine := size_lt (by omega)
    walk_at "go"
    refine k _ (.dp (kl.map Prod.snd) ((ik (qD ls)).map Prod.snd) :: P2) (sp2.trans (Ps.skip Ps.refl)) ?_
    rw [← qD_put_new hni]
    walk_at "fin"
    all_goals first | exact putK_fst hk _ _ _ | exact Dv.put (Dv.of (by walk_at "mem")) hk (dvN T _)
def sp_storee (K : PySem.W.Frag) (C : Addr) : Sp := fun vs H Q _ => ∃ (x dx l s : Addr) (a b n : Int) (ls ss : List QR) (R : List (Addr × Ob)) (P : List Pf), vs = [.ref x, .int n] ∧ Own K H (qu C x dx l s a b ls ss ++ R) P ∧ ls.length ≤ 100 ∧ ss.length ≤ 100 ∧ 0 ≤ n ∧ (∀ z ∈ qkeys ls ++ qkeys ss, z < n) ∧ (ss.length : Int) < b ∧
  ∀ (H' : Hp) (P' : List Pf), Ps P P' → Own K H' (qu C x dx l s a b ls (ss ++ [(n, none, none)]) ++ R) P' → Q .non H'
theorem ok_Queues_store_entered (T : Txt K mg) : FnOk P w K mg base CX0 4 T.f_Queues_store_entered T.fd_Queues_store_entered ["self", "number"] (sp_storee K T.C_Queues) := by
  have G_Queuesneed_above_all := ok_Queuesneed_above_all (P := P) (w := w) (base := base) T
  have G_Queues_can_store := ok_Queues_can_store (P := P) (w := w) (base := base) T
  refine T.F_Queues_store_entered.ok sc_Queues_store_entered (fun vs H Q E h => ?_) (fun cdv A outer s H vs Q E hr h => ?_)
  · obtain ⟨x, dx, l, s, a, b, n, ls, ss, R, P, rfl, hO, hl1, hs1, hn, hz, hrm, k⟩ := h; rfl
  · obtain ⟨x, dx, l, s, a, b, n, ls, ss, R, P, rfl, hO, hl1, hs1, hn, hz, hrm, k⟩ := h
    refine ⟨_, (pss_cons (ps_expr (pe_meth (pv 0) T.cl_Queues T.me_Queuesneed_above_all G_Queuesneed_above_all (hr.mono (by decide)) T.b_Queuesneed_above_all .nil pass0 (pa_cons (pv 1) pa_nil)))
        (pss_cons (ps_if (pt_not (pt_val (pe_prop (pv 0) T.cl_Queues T.p_Queues_can_store G_Queues_can_store (hr.mono (by decide)) T.b_Queues_can_store .nil pass0 rfl)))
          (pss_one ps_never)
          pss_nil)
        (pss_one (ps_dput (hu_of hr) (pe_fld (pv 0) rfl) (pv 1) (pe_glob (v := .ref T.aN) rfl T.gN rfl) rfl)))), ?_⟩
    clear G_Queuesneed_above_all G_Queues_can_store
    clear hr
    walk_at "go"
    intro H2 P2 sp2 hO
    walk_at "go"
    rw [decide_eq_true hrm]
    simp only [qu, List.cons_append, List.nil_append] at hO k
    obtain ⟨kl, hk, o1⟩ := hO.openD (a := s) (by walk_at "mem")
    replace hO := o1 _ (by walk_at "setat")
    clear o1
    have hl := ik_len hk
    rw [qD_len] at hl
    have hni : n ∉ qkeys ss := fun m => not_above hz (List.mem_append_right _ m)
    have hv := valV_ofN hk (find_none hni)
    have szk : kl.length < sizeLine := size_lt (by omega)
    walk_at "go"
    refine k _ (.dp (kl.map Prod.snd) ((ik (qD ss)).map Prod.snd) :: P2) (sp2.trans (Ps.skip Ps.refl)) ?_
    rw [← qD_put_new hni]
    walk_at "fin"
    all_goals first | exact putK_fst hk _ _ _ | exact Dv.put (Dv.of (by walk_at "mem")) hk (dvN T _)
end
end K76

set_option Elab.async false
set_option linter.all false
set_option maxRecDepth 100000
set_option maxHeartbeats 8000000

namespace K76
open PySem PySem.Spec PyProof.Rows L2 Hx 
local macro_rules | `(tactic| walk_at "sm") => `(tactic| repeat' (first | assumption | apply Hx.Same.upd | exact L2.Same.refl _ | apply same_trans'))
local macro_rules | `(tactic| walk_at "hp") => `(tactic| repeat' (first | assumption | exact upd_same | apply old_upd | apply same_at))
local macro_rules | `(tactic| walk_at "rd") => `(tactic| repeat' (first | rfl | apply Exists.intro | apply And.intro | refine iteT ?_ | refine iteF ?_ | exact upd_same | exact SqL.of (by assumption) | exact SqL.of upd_same | exact SqT.of upd_same | exact SqT.of (by assumption) | ((with_reducible show (_ : Int) < _); omega) | ((with_reducible show (_ : Int) ≤ _); omega) | (show (_ : Prop); assumption) | exact Or.inl ⟨_, by assumption, rfl⟩ | exact Or.inl ⟨rfl, _, SqL.of (by assumption)⟩ | exact Or.inl ⟨rfl, _, SqL.of upd_same⟩ | apply old_upd | apply Hx.SqL.new | apply tyl_new | apply Pot.new | exact same_at (by assumption) (by assumption) | exact Or.inl (SqL.of (by assumption)) | exact Or.inl (by assumption) | exact Or.inl (SqL.of upd_same) | exact size_le (Nat.le_of_ble_eq_true rfl) | exact Nat.le_of_ble_eq_true rfl | exact True.intro | exact Or.inl rfl | exact Or.inr rfl | (show (_ : Prop); omega) | (show (_ : Prop); dsimp only; omega) | exact mulw64 (by omega) (by omega) | exact mulw64 (by (try dsimp only); omega) (by (try dsimp only); omega)))
set_option hygiene false in
local macro_rules | `(tactic| walk_at "fl") => `(tactic| simp only [pu_Queues_load_rooms, pi_Queues_load_rooms, pu_Queues_store_rooms, pi_Queues_store_rooms, pu_Queues_loads, pi_Queues_loads, pu_Queues_stores, pi_Queues_stores] at hO)
local macro_rules | `(tactic| walk_at "mem") => `(tactic| ((repeat (first | exact List.Mem.head _ | apply List.Mem.tail | fail)); done))
local macro_rules | `(tactic| walk_at "setat") => `(tactic| ((repeat (first | (with_reducible exact At.head) | (with_reducible apply At.tail) | (with_reducible apply At.app) | fail)); done))
set_option hygiene false in
local macro_rules | `(tactic| walk_at "dv") => `(tactic| ((repeat' (first | exact Dv.nil | exact Dv.of (by walk_at "mem") | exact Dv.ints _ | exact Dv1.of (by walk_at "mem") | exact Dv1.int _ | exact Dv1.non | exact Dv1.bl _ | exact Dv1.str _ | (with_reducible apply Dv.cons) | refine Dv1.tup (by walk_at "mem") ?_ | refine Dv1.lst (by walk_at "mem") ?_ | (with_reducible apply Dv.app) | fail)); done))
local macro_rules | `(tactic| walk_at "ft") => `(tactic| (first | (with_reducible exact Ft.refl) | ((with_reducible apply Ft.toL); focus walk_at "dv") | ((with_reducible apply Ft.toS); focus assumption) | (with_reducible apply Ft.lst) | (with_reducible apply Ft.Le) | (with_reducible apply Ft.dK) | (with_reducible apply Ft.De) | (with_reducible apply Ft.ins) | (with_reducible apply Ft.toL) | (with_reducible apply Ft.toS) | (with_reducible apply Ft.toD) | fail))
local macro_rules | `(tactic| walk_at "sbL") => `(tactic| repeat' (first | (with_reducible exact Sb.refl _) | exact Sb.nil | (with_reducible apply Sb.cons) | (with_reducible apply Sb.app) | (with_reducible exact Pk.one) | (with_reducible exact Pk.here) | (with_reducible exact Pk.all) | (with_reducible apply Pk.skip1) | (with_reducible apply Pk.skipB) | (with_reducible apply Sb.skip) | (with_reducible apply Sb.skipB) | ((with_reducible show Ft _ _ _ _); walk_at "ft") | ((with_reducible show (_ : List _) = _); (first | rfl | (simp [List.map_set, List.map_append]; done) | fail)) | fail))
local macro_rules | `(tactic| walk_at "sb") => `(tactic| ((walk_at "sbL"); done))
local macro_rules | `(tactic| walk_at "ps") => `(tactic| ((repeat' (first | (with_reducible exact Ps.refl) | exact Ps.nil | (with_reducible apply Ps.cons) | exact List.Mem.head _ | apply List.Mem.tail | (with_reducible apply Ps.skip) | fail)); done))
set_option hygiene false in
local macro_rules | `(tactic| walk_at "at") => `(tactic| first | assumption | exact Own.raw hO (by walk_at "mem") | exact Own.ptup hO (by walk_at "mem") | exact Own.plst hO (by walk_at "mem") | fail)
set_option hygiene false in
local macro_rules | `(tactic| walk_at "st") => `(tactic| (rw [upd_mkO hO]; generalize e : updX _ _ _ = H1; (first | ((apply Own.cset hO e); (focus walk_at "setat"); (try clear hO e); intro hO) | ((apply Own.cnewT hO e); (focus assumption); (try clear hO e); intro hO) | ((apply Own.cnew hO e); (focus assumption); (try clear hO e); intro hO) | fail)))
set_option hygiene false in
local macro_rules | `(tactic| walk_at "mk") => `(tactic| (intro p1 p2 f1 f2 f3; rw [upd_mkO hO]; generalize e : upd (updX _ _ _) _ _ = H1; apply Own.cmake hO f1 f2 f3 e; (try clear hO e); intro hO))
set_option hygiene false in
local macro_rules | `(tactic| walk_at "own") => `(tactic| (first | ((apply Own.sub hO); (focus walk_at "sb"); (focus walk_at "ps")) | ((apply Own.sub hF); (focus walk_at "sb"); (focus walk_at "ps")) | fail))
set_option hygiene false in
local macro_rules | `(tactic| walk_at "fin") => `(tactic| (refine Own.sub hO ?_ (by walk_at "ps"); walk_at "sbL"))
set_option hygiene false in
local macro_rules | `(tactic| walk_at "g1") => `(tactic| (first
 | ((with_reducible show (_ : Option HO) = _); walk_at "at")
 | ((with_reducible show (_ : Int) < _); omega) | ((with_reducible show (_ : Int) ≤ _); omega)
 | ((with_reducible show (_ : Nat) < _); (first | assumption | exact Nat.le_of_ble_eq_true rfl | exact size_lt (Nat.le_of_ble_eq_true rfl) | omega | (simp; done) | (simp; omega) | fail))
 | ((with_reducible show (_ : Nat) ≤ _); (first | assumption | exact Nat.le_of_ble_eq_true rfl | exact size_le (Nat.le_of_ble_eq_true rfl) | omega | (simp; done) | (simp; omega) | fail))
 | ((with_reducible show Own _ _ _ _); (first | walk_at "own" | (walk_at "st"; walk_at "own") | fail))
 | ((with_reducible show SqL _ _ _ _); (first | assumption | exact SqL.of (by walk_at "at") | fail))
 | ((with_reducible show SqT _ _ _ _); (first | assumption | exact hO.psq (by walk_at "mem") | exact SqT.of (by walk_at "at") | fail))
  | ((with_reducible show Cls _ _); exact Txt.cl_Queues T) | ((with_reducible show NoAttr _ _ _); exact Txt.n_Queues_load_rooms T) | (with_reducible exact gt_Queues_load_rooms) | ((with_reducible show NoAttr _ _ _); exact Txt.n_Queues_store_rooms T) | (with_reducible exact gt_Queues_store_rooms) | ((with_reducible show NoAttr _ _ _); exact Txt.n_Queues_loads T) | (with_reducible exact gt_Queues_loads) | ((with_reducible show NoAttr _ _ _); exact Txt.n_Queues_stores T) | (with_reducible exact gt_Queues_stores)  | ((with_reducible show V.ref _ = V.ref _); (first | rfl | fail))
 | ((with_reducible show DGet _ _ _ _); (first | exact DGet.ki (by walk_at "at") (by assumption) | exact DGet.kiF (by walk_at "at") (by assumption) | fail))
 | ((with_reducible show DPut _ _ _ _ _); exact DPut.ki (by walk_at "at") (by assumption))
 | ((with_reducible show Rd _ _ _); (first | exact Or.inl (by walk_at "at") | exact Or.inr ⟨_, by walk_at "at"⟩ | fail))
 | ((with_reducible show (∃ _ : List (Key × V), _) ∨ _); refine Or.inl ⟨_, by walk_at "at", ?_⟩)
 | ((with_reducible show Dv _ _ _ _); focus walk_at "dv") | ((with_reducible show Dv1 _ _ _ _); focus walk_at "dv")
 | ((with_reducible show IsD _ _); exact Or.inl ⟨_, Or.inl (by walk_at "at")⟩)
 | ((with_reducible show V.int _ = kV _); exact kV_int)
 | ((with_reducible show Option.isSome _ = true); (first | exact isSome_ofV (by assumption) | assumption | fail))
 | ((with_reducible show SqL _ _ _ _ ∨ SqT _ _ _ _); (first | exact Or.inl (by assumption) | exact Or.inr (by assumption) | exact Or.inl (SqL.of (by walk_at "at")) | exact Or.inr (SqT.of (by walk_at "at")) | fail))
 | ((with_reducible show Dp _ _ _ _); (first | assumption | exact hO.dpL (by walk_at "mem") | exact .lst (SqL.of (by walk_at "at")) (hO.all (by walk_at "dv")) | exact hO.one (by walk_at "dv") | fail))
 | ((with_reducible show TruV _ _ _ _); (first | exact Or.inl ⟨_, SqL.of (by walk_at "at"), rfl⟩ | exact Or.inr (Or.inr ⟨_, by walk_at "at", rfl⟩) | exact Or.inr (Or.inl ⟨_, SqT.of (by walk_at "at"), rfl⟩) | fail))
 | ((with_reducible show RgOk _ _); exact RgOk.of_le (by omega) (by omega) (by omega) (by omega))
 | rfl | (with_reducible assumption) | apply And.intro | apply Exists.intro | refine iteT ?_ | refine iteF ?_
 | (walk_at "st"; (try walk_at "fl"))
 | ((with_reducible show ∀ _ : Addr, _ = none → _); (fail_if_success (with_reducible show ∀ _ : Addr, _ = none → ∃ _ : Nat → Nat → Hp → Prop, _)); intro p fp; walk_at "st")
 | (refine Or.inl ⟨SqL.of (by walk_at "at"), ?_⟩) | (refine Or.inr ⟨SqT.of (by walk_at "at"), ?_⟩) | exact Or.inl ⟨_, by walk_at "at", rfl⟩ | exact Or.inl ⟨rfl, _, SqL.of (by walk_at "at")⟩ | exact tyl_of (by walk_at "at") | exact Or.inl (SqL.of (by walk_at "at")) | exact Or.inr (SqT.of (by walk_at "at")) | exact Or.inl (by walk_at "at") | exact size_le (Nat.le_of_ble_eq_true rfl) | exact Nat.le_of_ble_eq_true rfl | exact True.intro | exact Or.inl rfl | exact Or.inr rfl | (show (_ : Prop); assumption) | (show (_ : Prop); omega) | (show (_ : Prop); dsimp only; omega) | exact mulw64 (by omega) (by omega) | exact mulw64 (by (try dsimp only); omega) (by (try dsimp only); omega) | fail))
local macro_rules | `(tactic| walk_at "go") => `(tactic| repeat walk_at "g1")

section
variable {P : Program} {w : World} {K : PySem.W.Frag} {mg : Str → Option Value} {base : Heap}
def hitE (n p : Int) (r : QR) : Bool := decide (n < r.1) && (decide (r.2.1 = some p) && (match r.2.2 with | none => true | some z => decide (z < n)))
def erl (ls : List QR) (n p : Int) : Option Int := (ls.find? (hitE n p)).map fun r => r.1
def setW (ss : List QR) (n : Int) (a b : Option Int) : List QR := ss.map fun r => if r.1 = n then (n, a, b) else r
theorem Dv1.opt {K : PySem.W.Frag} {H : Hp} {L : List (Addr × Ob)} {P : List Pf} {v : V} {o : Option Int} (h : Dv1 K P v (oD o)) (hO : Own K H L P) : v = oV o := by
  have d := hO.one h
  cases o with
  | none => cases d; rfl
  | some i => cases d; rfl
theorem Dv1.oV {K : PySem.W.Frag} {P : List Pf} (o : Option Int) : Dv1 K P (oV o) (oD o) := by
  cases o with
  | none => exact Dv1.non
  | some i => exact Dv1.int i
theorem find_row {rs : List QR} (nd : (qkeys rs).Nodup) {r : QR} (h : r ∈ rs) : valD (ik (qD rs)) (Sum.inl r.1) = some (.tuple [oD r.2.1, oD r.2.2]) := by
  rw [ik_val, qD, List.find?_map]
  induction rs with
  | nil => simp at h
  | cons q rs ih =>
    rw [qkeys, List.map_cons, List.nodup_cons] at nd
    rw [List.find?_cons]
    rcases List.mem_cons.mp h with rfl | h
    · simp
    · have : q.1 ≠ r.1 := fun z => nd.1 (List.mem_map.mpr ⟨r, h, z.symm⟩)
      simp only [Function.comp, this, decide_false]
      exact ih nd.2 h
theorem qD_put {rs : List QR} {n : Int} (h : n ∈ qkeys rs) (a b : Option Int) : putD (ik (qD rs)) (Sum.inl n) (.tuple [oD a, oD b]) = ik (qD (setW rs n a b)) := by
  have e := putD_rows (fun r : QR => r.1) (fun r => PyData.tuple [oD r.2.1, oD r.2.2]) rs n (.tuple [oD a, oD b]) (fun r => if r.1 = n then (n, a, b) else r) (by
    obtain ⟨r, hr, e⟩ := List.mem_map.mp h
    exact ⟨r, hr, e⟩) (fun r => by split <;> simp_all) (fun r _ e => by rw [if_pos e]) (fun r _ e => by rw [if_neg e])
  have e1 : ∀ rs : List QR, ik (qD rs) = rs.map fun r => (Sum.inl r.1, PyData.tuple [oD r.2.1, oD r.2.2]) := fun rs => by rw [ik, qD, List.map_map]; rfl
  rw [e1, e, e1, setW]
theorem setW_len (rs : List QR) (n : Int) (a b : Option Int) : (setW rs n a b).length = rs.length := by rw [setW, List.length_map]
theorem find_hit {rs : List QR} {f : QR → Bool} {i : Nat} {r : QR} (h : rs[i]? = some r) (hr : f r = true) (hn : ∀ (j : Nat) (q : QR), j < i → rs[j]? = some q → f q = false) : rs.find? f = some r := by
  induction rs generalizing i with
  | nil => simp at h
  | cons x rs ih =>
    cases i with
    | zero =>
      obtain rfl : x = r := by simpa using h
      rw [List.find?_cons, hr]
    | succ i =>
      rw [List.find?_cons, hn 0 x (Nat.succ_pos _) rfl]
      exact ih (by simpa using h) fun j q hj hq => hn (j + 1) q (Nat.succ_lt_succ hj) (by simpa using hq)
theorem find_nohit {rs : List QR} {f : QR → Bool} (hn : ∀ (j : Nat) (q : QR), j < rs.length → rs[j]? = some q → f q = false) : rs.find? f = none := by
  rw [List.find?_eq_none]
  intro r hr
  obtain ⟨j, hj, e⟩ := List.getElem_of_mem hr
  rw [hn j r hj (by rw [List.getElem?_eq_getElem hj, e])]
  exact Bool.false_ne_true
theorem no_snoc {rs : List QR} {f : QR → Bool} {i : Nat} {r : QR} (hn : ∀ (j : Nat) (q : QR), j < i → rs[j]? = some q → f q = false) (hi : rs[i]? = some r) (hr : f r = false) : ∀ (j : Nat) (q : QR), j < i + 1 → rs[j]? = some q → f q = false := fun j q hj hq => by
  by_cases e : j = i
  · subst e
    rw [hi] at hq
    exact Option.some.inj hq ▸ hr
  · exact hn j q (by omega) hq
theorem shN : SeqAt.shaped (.tuple [.none, .none]) = true := by decide
theorem eqvN : PyData.eqv (.tuple [.none, .none]) (.tuple [.none, .none]) = true := by decide
def sp_known (K : PySem.W.Frag) (C : Addr) : Sp := fun vs H Q _ => ∃ (x dx l s : Addr) (a b n pl wd : Int) (ls ss : List QR) (R : List (Addr × Ob)) (P : List Pf), vs = [.ref x, .int n, .int pl, .int wd] ∧ Own K H (qu C x dx l s a b ls ss ++ R) P ∧ 0 ≤ n ∧ (0 ≤ pl ∧ pl < 1024) ∧ (0 ≤ wd ∧ wd < 65536) ∧ (qkeys ss).Nodup ∧ (n, none, none) ∈ ss ∧ ls.length ≤ 100 ∧ ss.length ≤ 100 ∧
  ∀ (H' : Hp) (P' : List Pf), Ps P P' → Own K H' (qu C x dx l s a b ls (setW ss n (some pl) (some wd)) ++ R) P' → Q (oV (erl ls n pl)) H'
theorem ok_Queues_known (T : Txt K mg) : FnOk P w K mg base CX0 5 T.f_Queues_known T.fd_Queues_known ["self", "number", "place", "word"] (sp_known K T.C_Queues) := by
  have G__need_one_of := ok__need_one_of (P := P) (w := w) (base := base) T
  have G_need_place := ok_need_place (P := P) (w := w) (base := base) T
  have G_need_word := ok_need_word (P := P) (w := w) (base := base) T
  refine T.F_Queues_known.ok sc_Queues_known (fun vs H Q E h => ?_) (fun cdv A outer s H vs Q E hr h => ?_)
  · obtain ⟨x, dx, l, s, a, b, n, pl, wd, ls, ss, R, P, rfl, hO, hn, hp, hw, hnd, hm, hl1, hs1, k⟩ := h; rfl
  · obtain ⟨x, dx, l, s, a, b, n, pl, wd, ls, ss, R, P, rfl, hO, hn, hp, hw, hnd, hm, hl1, hs1, k⟩ := h
    refine ⟨_, (pss_cons (ps_expr (pe_call G__need_one_of (hr.mono (by decide)) rfl T.g__need_one_of T.F__need_one_of.kp T.b__need_one_of .nil pass0 (pa_cons (pe_fld (pv 0) rfl) (pa_cons (pv 1) pa_nil))))
        (pss_cons (ps_expr (pe_call G_need_place (hr.mono (by decide)) rfl T.g_need_place T.F_need_place.kp T.b_need_place .nil pass0 (pa_cons (pv 2) pa_nil)))
        (pss_cons (ps_expr (pe_call G_need_word (hr.mono (by decide)) rfl T.g_need_word T.F_need_word.kp T.b_need_word .nil pass0 (pa_cons (pv 3) pa_nil)))
        (pss_cons (ps_if (pt_cmpR (op_neD hr.units) (pe_dget (hu_of hr) (pe_fld (pv 0) rfl) (pv 1) (fun _ _ => rfl)) (pe_glob (v := .ref T.aN) rfl T.gN rfl) (nomark _))
          (pss_one ps_never)
          pss_nil)
        (pss_cons (ps_dput (hu_of hr) (pe_fld (pv 0) rfl) (pv 1) (pe_tup (pa_cons (pv 2) (pa_cons (pv 3) pa_nil))) rfl)
        (pss_cons (ps_lockS (ps_forS PassesOwn.never rfl (pi_items (pe_fld (pv 0) rfl)) (pg_tup rfl (pgs_cons (pg_name (i := 4) sc_Queues_known.nd rfl (Or.inl rfl)) (pgs_cons (pg_tup rfl (pgs_cons (pg_name (i := 5) sc_Queues_known.nd rfl (Or.inl rfl)) (pgs_cons (pg_name (i := 6) sc_Queues_known.nd rfl (Or.inl rfl)) pgs_nil))) pgs_nil)))
          (pss_one (ps_if (PW.pt (pw_and (pt_cmpR op_gt (pv 4) (pv 1) (nomark _)) (pw_and (pt_cmpR op_eq (pv 5) (pv 2) (nomark _)) (pw_and1 (PW.pt (pw_or (pt_cmpR op_isN (pv 6) pe_non (nomark _)) (pw_or1 (pt_cmpR op_lt (pv 6) (pv 1) (nomark _)))))))))
            (pss_one (ps_ret (pv 4)))
            pss_nil))))
        (pss_one (ps_ret pe_non)))))))), ?_⟩
    clear G__need_one_of G_need_place G_need_word
    clear hr
    simp only [qu, List.cons_append, List.nil_append] at hO k
    have hin : n ∈ (qD ss).map Prod.fst := by rw [qD_keys]; exact List.mem_map.mpr ⟨_, hm, rfl⟩
    have hF := hO
    obtain ⟨ks, hk2, o2⟩ := hO.openD (a := s) (by walk_at "mem")
    replace hO := o2 _ (by walk_at "setat")
    clear o2
    have hl := ik_len hk2
    rw [qD_len] at hl
    have vd : valD (ik (qD ss)) (Sum.inl n) = some (.tuple [.none, .none]) := find_row hnd hm
    obtain ⟨v, hv⟩ := valV_of hk2 vd
    have dv := Dv.val (K := K) (P := .dp (ks.map Prod.snd) ((ik (qD ss)).map Prod.snd) :: P) (Dv.of List.mem_cons_self) hk2 hv vd
    have hd1 := hO.one dv
    have hd2 := hO.one (dvN T _)
    have s1 := shN
    have szk : ks.length < sizeLine := size_lt (by omega)
    walk_at "go"
    replace hO : Own K H1 ((x, .raw (.ins T.C_Queues dx (F_Queues (.int a) (.int b) (.ref l) (.ref s)))) :: (l, .D (ik (qD ls))) :: (s, .D (ik (qD (setW ss n (some pl) (some wd))))) :: R) (.tup p [.int pl, .int wd] :: .dp (ks.map Prod.snd) ((ik (qD ss)).map Prod.snd) :: P) := by
      rw [← qD_put (by rwa [qD_keys] at hin)]
      refine Own.sub hO ?_ Ps.refl
      walk_at "sbL"
      · exact putK_fst hk2 _ _ _
      · exact Dv.put (Dv.of (by walk_at "mem")) hk2 (Dv1.tup List.mem_cons_self (Dv.cons (Dv1.int _) (Dv.cons (Dv1.int _) Dv.nil)))
    have sp1 : Ps P (.tup p [.int pl, .int wd] :: .dp (ks.map Prod.snd) ((ik (qD ss)).map Prod.snd) :: P) := Ps.skip (Ps.skip Ps.refl)
    generalize (.tup p [.int pl, .int wd] :: .dp (ks.map Prod.snd) ((ik (qD ss)).map Prod.snd) :: P : List Pf) = P1 at hO sp1
    clear hF hd1 hd2 dv hv vd
    generalize setW ss n (some pl) (some wd) = ss2 at hO k
    walk_at "go"
    obtain ⟨kl, hk, o1⟩ := hO.openD (a := l) (by walk_at "mem")
    replace hO := o1 _ (by walk_at "setat")
    clear o1
    have hll := ik_len hk
    rw [qD_len] at hll
    refine hO.lockS (d := l) (u := .dK kl) (by walk_at "mem") trivial fun od H2 o2 => ?_
    replace hO := o2 _ (by walk_at "setat")
    clear o2
    walk_at "go"
    refine ⟨for_it (walk_items (kvs := kl)) (fun i σ H' => Stop (∃ (t4 t5 t6 : Option V) (P' : List Pf), σ = [some (.ref x), some (.int n), some (.int pl), some (.int wd), t4, t5, t6] ∧ Ps (.dp (kl.map Prod.snd) ((ik (qD ls)).map Prod.snd) :: P1) P' ∧ (∀ (j : Nat) (q : QR), j < i → ls[j]? = some q → hitE n pl q = false) ∧ Own K H' ((x, .raw (.ins T.C_Queues dx (F_Queues (.int a) (.int b) (.ref l) (.ref s)))) :: (l, .raw (.frz od (.dK kl))) :: (s, .D (ik (qD ss2))) :: R) P')) ⟨⟨none, none, none, _, rfl, Ps.refl, (fun j q h => nomatch h), hO⟩⟩ (fun i σ H' hi h => ?_) (fun i v σ H1 H' hi h hY => ?_) (fun σ H' h => ?_)⟩
    · obtain ⟨t4, t5, t6, P', rfl, sp, hno, hO⟩ := h.h
      exact hO.raw (by walk_at "mem")
    · clear hO
      obtain ⟨t4, t5, t6, P', rfl, sp, hno, hO⟩ := h.h
      clear h
      obtain ⟨t0, kx, vx, rfl, hT, rfl, e1, e2⟩ := hY
      obtain ⟨kv, ekv, rfl⟩ := Option.map_eq_some_iff.mp e1
      obtain rfl : kv.2 = vx := by
        have e2' : kl[i]?.map Prod.snd = some vx := e2
        rw [ekv] at e2'
        exact Option.some.inj e2'
      obtain ⟨r, er, ek⟩ := ik_get hk (k := kv.1) (v := kv.2) ekv
      have er2 := er
      rw [qD, List.getElem?_map] at er2
      obtain ⟨q, hq, rfl⟩ := Option.map_eq_some_iff.mp er2
      rw [ek]
      replace hO := hO.newT (vs := [.int q.1, kv.2]) hT rfl
      obtain ⟨t, a', b', ev, hO⟩ := hO.opn2 (x := oD q.2.1) (y := oD q.2.2) (Dv.get (vs := kl.map Prod.snd) (ds := (ik (qD ls)).map Prod.snd) (Dv.of (List.mem_cons_of_mem _ (sp _ List.mem_cons_self))) (by rw [List.getElem?_map, ekv]; rfl) (i := i) (by simp [ik, qD, hq]))
      obtain rfl : a' = oV q.2.1 := Dv1.opt (Dv1.of (by walk_at "mem")) hO
      obtain rfl : b' = oV q.2.2 := Dv1.opt (Dv1.of (by walk_at "mem")) hO
      rw [ev] at hO ⊢
      have sp4 := sp.trans ((Ps.skip (q := Pf.sq t [oV q.2.1, oV q.2.2]) (Ps.skip (q := Pf.dp [oV q.2.1] [oD q.2.1]) (Ps.skip (q := Pf.dp [oV q.2.2] [oD q.2.2]) (Ps.skip (q := Pf.tup t0 [.int q.1, .ref t]) Ps.refl)))))
      have hyes : hitE n pl q = true → erl ls n pl = some q.1 := fun h => by rw [erl, find_hit hq h hno]; rfl
      have hnon : hitE n pl q = false → _ := no_snoc hno hq
      clear er er2 e1 e2 ekv hno
      obtain ⟨ln, oa, ob⟩ := q
      dsimp only at hO hyes hnon sp4 ⊢
      rw [show kV (Sum.inl ln) = V.int ln from rfl]
      generalize upd H1 t0 (.tup [.int ln, .ref t]) = H3 at hO ⊢
      rcases oa with _ | oa
      · walk_at "go"
        refine iteD (fun h1 => ?_) (fun h1 => ?_)
        · walk_at "go"
          exact ⟨⟨_, _, _, _, rfl, sp4, hnon (by simp [hitE, h1]), hO⟩⟩
        · walk_at "go"
          exact ⟨⟨_, _, _, _, rfl, sp4, hnon (by simp [hitE, h1]), hO⟩⟩
      · rcases ob with _ | ob
        · walk_at "go"
          refine iteD (fun h1 => ?_) (fun h1 => ?_)
          · walk_at "go"
            refine iteD (fun h2 => ?_) (fun h2 => ?_)
            · have e2 : oa = pl := V.int.inj h2
              rw [hyes (by simp [hitE, h1, e2])] at k
              walk_at "go"
              refine k _ _ (sp1.trans ((Ps.skip Ps.refl).trans sp4)) ?_
              walk_at "fin"
              · exact hk
              · exact Dv.of (sp4 _ List.mem_cons_self)
            · have e2 : oa ≠ pl := fun z => h2 (congrArg V.int z)
              walk_at "go"
              exact ⟨⟨_, _, _, _, rfl, sp4, hnon (by simp [hitE, h1, e2]), hO⟩⟩
          · walk_at "go"
            exact ⟨⟨_, _, _, _, rfl, sp4, hnon (by simp [hitE, h1]), hO⟩⟩
        · walk_at "go"
          refine iteD (fun h1 => ?_) (fun h1 => ?_)
          · walk_at "go"
            refine iteD (fun h2 => ?_) (fun h2 => ?_)
            · have e2 : oa = pl := V.int.inj h2
              walk_at "go"
              refine iteD (fun h3 => ?_) (fun h3 => ?_)
              · rw [hyes (by simp [hitE, h1, e2, h3])] at k
                walk_at "go"
                refine k _ _ (sp1.trans ((Ps.skip Ps.refl).trans sp4)) ?_
                walk_at "fin"
                · exact hk
                · exact Dv.of (sp4 _ List.mem_cons_self)
              · walk_at "go"
                exact ⟨⟨_, _, _, _, rfl, sp4, hnon (by simp [hitE, h1, e2, h3]), hO⟩⟩
            · have e2 : oa ≠ pl := fun z => h2 (congrArg V.int z)
              walk_at "go"
              exact ⟨⟨_, _, _, _, rfl, sp4, hnon (by simp [hitE, h1, e2]), hO⟩⟩
          · walk_at "go"
            exact ⟨⟨_, _, _, _, rfl, sp4, hnon (by simp [hitE, h1]), hO⟩⟩
    · clear hO
      obtain ⟨t4, t5, t6, P', rfl, sp, hno, hO⟩ := h.h
      clear h
      walk_at "go"
      rw [hll] at hno
      have e : erl ls n pl = none := by rw [erl, find_nohit hno]; rfl
      rw [e] at k
      refine k _ P' (sp1.trans ((Ps.skip Ps.refl).trans sp)) ?_
      walk_at "fin"
      · exact hk
      · exact Dv.of (sp _ List.mem_cons_self)
end
end K76

set_option Elab.async false
set_option linter.all false
set_option maxRecDepth 100000
set_option maxHeartbeats 8000000

namespace K76
open PySem PySem.Spec PyProof.Rows L2 Hx 
local macro_rules | `(tactic| walk_at "sm") => `(tactic| repeat' (first | assumption | apply Hx.Same.upd | exact L2.Same.refl _ | apply same_trans'))
local macro_rules | `(tactic| walk_at "hp") => `(tactic| repeat' (first | assumption | exact upd_same | apply old_upd | apply same_at))
local macro_rules | `(tactic| walk_at "rd") => `(tactic| repeat' (first | rfl | apply Exists.intro | apply And.intro | refine iteT ?_ | refine iteF ?_ | exact upd_same | exact SqL.of (by assumption) | exact SqL.of upd_same | exact SqT.of upd_same | exact SqT.of (by assumption) | ((with_reducible show (_ : Int) < _); omega) | ((with_reducible show (_ : Int) ≤ _); omega) | (show (_ : Prop); assumption) | exact Or.inl ⟨_, by assumption, rfl⟩ | exact Or.inl ⟨rfl, _, SqL.of (by assumption)⟩ | exact Or.inl ⟨rfl, _, SqL.of upd_same⟩ | apply old_upd | apply Hx.SqL.new | apply tyl_new | apply Pot.new | exact same_at (by assumption) (by assumption) | exact Or.inl (SqL.of (by assumption)) | exact Or.inl (by assumption) | exact Or.inl (SqL.of upd_same) | exact size_le (Nat.le_of_ble_eq_true rfl) | exact Nat.le_of_ble_eq_true rfl | exact True.intro | exact Or.inl rfl | exact Or.inr rfl | (show (_ : Prop); omega) | (show (_ : Prop); dsimp only; omega) | exact mulw64 (by omega) (by omega) | exact mulw64 (by (try dsimp only); omega) (by (try dsimp only); omega)))
set_option hygiene false in
local macro_rules | `(tactic| walk_at "fl") => `(tactic| simp only [pu_Queues_load_rooms, pi_Queues_load_rooms, pu_Queues_store_rooms, pi_Queues_store_rooms, pu_Queues_loads, pi_Queues_loads, pu_Queues_stores, pi_Queues_stores] at hO)
local macro_rules | `(tactic| walk_at "mem") => `(tactic| ((repeat (first | exact List.Mem.head _ | apply List.Mem.tail | fail)); done))
local macro_rules | `(tactic| walk_at "setat") => `(tactic| ((repeat (first | (with_reducible exact At.head) | (with_reducible apply At.tail) | (with_reducible apply At.app) | fail)); done))
set_option hygiene false in
local macro_rules | `(tactic| walk_at "dv") => `(tactic| ((repeat' (first | exact Dv.nil | exact Dv.of (by walk_at "mem") | exact Dv.ints _ | exact Dv1.of (by walk_at "mem") | exact Dv1.int _ | exact Dv1.non | exact Dv1.bl _ | exact Dv1.str _ | (with_reducible apply Dv.cons) | refine Dv1.tup (by walk_at "mem") ?_ | refine Dv1.lst (by walk_at "mem") ?_ | (with_reducible apply Dv.app) | fail)); done))
local macro_rules | `(tactic| walk_at "ft") => `(tactic| (first | (with_reducible exact Ft.refl) | ((with_reducible apply Ft.toL); focus walk_at "dv") | ((with_reducible apply Ft.toS); focus assumption) | (with_reducible apply Ft.lst) | (with_reducible apply Ft.Le) | (with_reducible apply Ft.dK) | (with_reducible apply Ft.De) | (with_reducible apply Ft.ins) | (with_reducible apply Ft.toL) | (with_reducible apply Ft.toS) | (with_reducible apply Ft.toD) | fail))
local macro_rules | `(tactic| walk_at "sbL") => `(tactic| repeat' (first | (with_reducible exact Sb.refl _) | exact Sb.nil | (with_reducible apply Sb.cons) | (with_reducible apply Sb.app) | (with_reducible exact Pk.one) | (with_reducible exact Pk.here) | (with_reducible exact Pk.all) | (with_reducible apply Pk.skip1) | (with_reducible apply Pk.skipB) | (with_reducible apply Sb.skip) | (with_reducible apply Sb.skipB) | ((with_reducible show Ft _ _ _ _); walk_at "ft") | ((with_reducible show (_ : List _) = _); (first | rfl | (simp [List.map_set, List.map_append]; done) | fail)) | fail))
local macro_rules | `(tactic| walk_at "sb") => `(tactic| ((walk_at "sbL"); done))
local macro_rules | `(tactic| walk_at "ps") => `(tactic| ((repeat' (first | (with_reducible exact Ps.refl) | exact Ps.nil | (with_reducible apply Ps.cons) | exact List.Mem.head _ | apply List.Mem.tail | (with_reducible apply Ps.skip) | fail)); done))
set_option hygiene false in
local macro_rules | `(tactic| walk_at "at") => `(tactic| first | assumption | exact Own.raw hO (by walk_at "mem") | exact Own.ptup hO (by walk_at "mem") | exact Own.plst hO (by walk_at "mem") | fail)
set_option hygiene false in
local macro_rules | `(tactic| walk_at "st") => `(tactic| (rw [upd_mkO hO]; generalize e : updX _ _ _ = H1; (first | ((apply Own.cset hO e); (focus walk_at "setat"); (try clear hO e); intro hO) | ((apply Own.cnewT hO e); (focus assumption); (try clear hO e); intro hO) | ((apply Own.cnew hO e); (focus assumption); (try clear hO e); intro hO) | fail)))
set_option hygiene false in
local macro_rules | `(tactic| walk_at "mk") => `(tactic| (intro p1 p2 f1 f2 f3; rw [upd_mkO hO]; generalize e : upd (updX _ _ _) _ _ = H1; apply Own.cmake hO f1 f2 f3 e; (try clear hO e); intro hO))
set_option hygiene false in
local macro_rules | `(tactic| walk_at "own") => `(tactic| (first | ((apply Own.sub hO); (focus walk_at "sb"); (focus walk_at "ps")) | ((apply Own.sub hF); (focus walk_at "sb"); (focus walk_at "ps")) | fail))
set_option hygiene false in
local macro_rules | `(tactic| walk_at "fin") => `(tactic| (refine Own.sub hO ?_ (by walk_at "ps"); walk_at "sbL"))
set_option hygiene false in
local macro_rules | `(tactic| walk_at "g1") => `(tactic| (first
 | ((with_reducible show (_ : Option HO) = _); walk_at "at")
 | ((with_reducible show (_ : Int) < _); omega) | ((with_reducible show (_ : Int) ≤ _); omega)
 | ((with_reducible show (_ : Nat) < _); (first | assumption | exact Nat.le_of_ble_eq_true rfl | exact size_lt (Nat.le_of_ble_eq_true rfl) | omega | (simp; done) | (simp; omega) | fail))
 | ((with_reducible show (_ : Nat) ≤ _); (first | assumption | exact Nat.le_of_ble_eq_true rfl | exact size_le (Nat.le_of_ble_eq_true rfl) | omega | (simp; done) | (simp; omega) | fail))
 | ((with_reducible show Own _ _ _ _); (first | walk_at "own" | (walk_at "st"; walk_at "own") | fail))
 | ((with_reducible show SqL _ _ _ _); (first | assumption | exact SqL.of (by walk_at "at") | fail))
 | ((with_reducible show SqT _ _ _ _); (first | assumption | exact hO.psq (by walk_at "mem") | exact SqT.of (by walk_at "at") | fail))
  | ((with_reducible show Cls _ _); exact Txt.cl_Queues T) | ((with_reducible show NoAttr _ _ _); exact Txt.n_Queues_load_rooms T) | (with_reducible exact gt_Queues_load_rooms) | ((with_reducible show NoAttr _ _ _); exact Txt.n_Queues_store_rooms T) | (with_reducible exact gt_Queues_store_rooms) | ((with_reducible show NoAttr _ _ _); exact Txt.n_Queues_loads T) | (with_reducible exact gt_Queues_loads) | ((with_reducible show NoAttr _ _ _); exact Txt.n_Queues_stores T) | (with_reducible exact gt_Queues_stores)  | ((with_reducible show V.ref _ = V.ref _); (first | rfl | fail))
 | ((with_reducible show DGet _ _ _ _); (first | exact DGet.ki (by walk_at "at") (by assumption) | exact DGet.kiF (by walk_at "at") (by assumption) | fail))
 | ((with_reducible show DPut _ _ _ _ _); exact DPut.ki (by walk_at "at") (by assumption))
 | ((with_reducible show Rd _ _ _); (first | exact Or.inl (by walk_at "at") | exact Or.inr ⟨_, by walk_at "at"⟩ | fail))
 | ((with_reducible show (∃ _ : List (Key × V), _) ∨ _); refine Or.inl ⟨_, by walk_at "at", ?_⟩)
 | ((with_reducible show Dv _ _ _ _); focus walk_at "dv") | ((with_reducible show Dv1 _ _ _ _); focus walk_at "dv")
 | ((with_reducible show IsD _ _); exact Or.inl ⟨_, Or.inl (by walk_at "at")⟩)
 | ((with_reducible show V.int _ = kV _); exact kV_int)
 | ((with_reducible show Option.isSome _ = true); (first | exact isSome_ofV (by assumption) | assumption | fail))
 | ((with_reducible show SqL _ _ _ _ ∨ SqT _ _ _ _); (first | exact Or.inl (by assumption) | exact Or.inr (by assumption) | exact Or.inl (SqL.of (by walk_at "at")) | exact Or.inr (SqT.of (by walk_at "at")) | fail))
 | ((with_reducible show Dp _ _ _ _); (first | assumption | exact hO.dpL (by walk_at "mem") | exact .lst (SqL.of (by walk_at "at")) (hO.all (by walk_at "dv")) | exact hO.one (by walk_at "dv") | fail))
 | ((with_reducible show TruV _ _ _ _); (first | exact Or.inl ⟨_, SqL.of (by walk_at "at"), rfl⟩ | exact Or.inr (Or.inr ⟨_, by walk_at "at", rfl⟩) | exact Or.inr (Or.inl ⟨_, SqT.of (by walk_at "at"), rfl⟩) | fail))
 | ((with_reducible show RgOk _ _); exact RgOk.of_le (by omega) (by omega) (by omega) (by omega))
 | rfl | (with_reducible assumption) | apply And.intro | apply Exists.intro | refine iteT ?_ | refine iteF ?_
 | (walk_at "st"; (try walk_at "fl"))
 | ((with_reducible show ∀ _ : Addr, _ = none → _); (fail_if_success (with_reducible show ∀ _ : Addr, _ = none → ∃ _ : Nat → Nat → Hp → Prop, _)); intro p fp; walk_at "st")
 | (refine Or.inl ⟨SqL.of (by walk_at "at"), ?_⟩) | (refine Or.inr ⟨SqT.of (by walk_at "at"), ?_⟩) | exact Or.inl ⟨_, by walk_at "at", rfl⟩ | exact Or.inl ⟨rfl, _, SqL.of (by walk_at "at")⟩ | exact tyl_of (by walk_at "at") | exact Or.inl (SqL.of (by walk_at "at")) | exact Or.inr (SqT.of (by walk_at "at")) | exact Or.inl (by walk_at "at") | exact size_le (Nat.le_of_ble_eq_true rfl) | exact Nat.le_of_ble_eq_true rfl | exact True.intro | exact Or.inl rfl | exact Or.inr rfl | (show (_ : Prop); assumption) | (show (_ : Prop); omega) | (show (_ : Prop); dsimp only; omega) | exact mulw64 (by omega) (by omega) | exact mulw64 (by (try dsimp only); omega) (by (try dsimp only); omega) | fail))
local macro_rules | `(tactic| walk_at "go") => `(tactic| repeat walk_at "g1")

section
variable {P : Program} {w : World} {K : PySem.W.Frag} {mg : Str → Option Value} {base : Heap}
/-- the newest store ahead of n to that place, told of -/
def srcOf (ss : List QR) (n p : Int) : Option (Int × Option Int) := ((ss.filter fun r => decide (r.1 < n) && decide (r.2.1 = some p)).getLast?).map fun r => (r.1, r.2.2)
def srcD : Option (Int × Option Int) → PyData
  | none => .tuple [.str "memory"]
  | some z => .tuple [.str "store", .int z.1, oD z.2]
theorem srcOf_snoc {ss : List QR} {i : Nat} {r : QR} (h : ss[i]? = some r) (n p : Int) : srcOf (ss.take (i + 1)) n p = if r.1 < n ∧ r.2.1 = some p then some (r.1, r.2.2) else srcOf (ss.take i) n p := by
  unfold srcOf
  rw [List.take_add_one, h]
  show ((ss.take i ++ [r]).filter _).getLast?.map _ = _
  rw [List.filter_append]
  by_cases e : r.1 < n ∧ r.2.1 = some p
  · rw [if_pos e, List.filter_cons, if_pos (by simp [e])]
    simp
  · rw [if_neg e, List.filter_cons, if_neg (by simpa using e)]
    simp
def sp_source (K : PySem.W.Frag) (C : Addr) : Sp := fun vs H Q _ => ∃ (x dx l s : Addr) (a b n pl : Int) (ls ss : List QR) (R : List (Addr × Ob)) (P : List Pf), vs = [.ref x, .int n, .int pl] ∧ Own K H (qu C x dx l s a b ls ss ++ R) P ∧ 0 ≤ n ∧ (0 ≤ pl ∧ pl < 1024) ∧ n ∈ qkeys ls ∧ ls.length ≤ 100 ∧ ss.length ≤ 100 ∧
  ∀ (t : Addr) (H' : Hp) (P' : List Pf), Ps P P' → Own K H' (qu C x dx l s a b ls ss ++ R) P' → Dv1 K P' (.ref t) (srcD (srcOf ss n pl)) → Q (.ref t) H'
theorem ok_Queues_source (T : Txt K mg) : FnOk P w K mg base CX0 5 T.f_Queues_source T.fd_Queues_source ["self", "number", "place"] (sp_source K T.C_Queues) := by
  have G__need_one_of := ok__need_one_of (P := P) (w := w) (base := base) T
  have G_need_place := ok_need_place (P := P) (w := w) (base := base) T
  refine T.F_Queues_source.ok sc_Queues_source (fun vs H Q E h => ?_) (fun cdv A outer s H vs Q E hr h => ?_)
  · obtain ⟨x, dx, l, s, a, b, n, pl, ls, ss, R, P, rfl, hO, hn, hp, hm, hl1, hs1, k⟩ := h; rfl
  · obtain ⟨x, dx, l, s, a, b, n, pl, ls, ss, R, P, rfl, hO, hn, hp, hm, hl1, hs1, k⟩ := h
    refine ⟨_, (pss_cons (ps_expr (pe_call G__need_one_of (hr.mono (by decide)) rfl T.g__need_one_of T.F__need_one_of.kp T.b__need_one_of .nil pass0 (pa_cons (pe_fld (pv 0) rfl) (pa_cons (pv 1) pa_nil))))
        (pss_cons (ps_expr (pe_call G_need_place (hr.mono (by decide)) rfl T.g_need_place T.F_need_place.kp T.b_need_place .nil pass0 (pa_cons (pv 2) pa_nil)))
        (pss_cons (ps_set (i := 3) sc_Queues_source.nd rfl (Or.inl rfl) (pe_tup (pa_cons pe_str pa_nil)))
        (pss_cons (ps_lockS (ps_forS PassesOwn.never rfl (pi_items (pe_fld (pv 0) rfl)) (pg_tup rfl (pgs_cons (pg_name (i := 4) sc_Queues_source.nd rfl (Or.inl rfl)) (pgs_cons (pg_tup rfl (pgs_cons (pg_name (i := 5) sc_Queues_source.nd rfl (Or.inl rfl)) (pgs_cons (pg_name (i := 6) sc_Queues_source.nd rfl (Or.inl rfl)) pgs_nil))) pgs_nil)))
          (pss_one (ps_if (PW.pt (pw_and (pt_cmpR op_lt (pv 4) (pv 1) (nomark _)) (pw_and1 (pt_cmpR op_eq (pv 5) (pv 2) (nomark _)))))
            (pss_one (ps_set (i := 3) sc_Queues_source.nd rfl (Or.inl rfl) (pe_tup (pa_cons pe_str (pa_cons (pv 4) (pa_cons (pv 6) pa_nil))))))
            pss_nil))))
        (pss_one (ps_ret (pv 3))))))), ?_⟩
    clear G__need_one_of G_need_place
    clear hr
    simp only [qu, List.cons_append, List.nil_append] at hO k
    have hin : n ∈ (qD ls).map Prod.fst := by rw [qD_keys]; exact hm
    have hF := hO
    obtain ⟨ks, hk, o1⟩ := hO.openD (a := s) (by walk_at "mem")
    replace hO := o1 _ (by walk_at "setat")
    clear o1
    have hll := ik_len hk
    rw [qD_len] at hll
    walk_at "go"
    clear hF
    have dv0 : Dv1 K (.tup p [.str "memory"] :: .dp (ks.map Prod.snd) ((ik (qD ss)).map Prod.snd) :: P) (.ref p) (srcD (srcOf (ss.take 0) n pl)) := Dv1.tup List.mem_cons_self (Dv.cons (Dv1.str _) Dv.nil)
    walk_at "go"
    refine hO.lockS (d := s) (u := .dK ks) (by walk_at "mem") trivial fun od H2 o2 => ?_
    replace hO := o2 _ (by walk_at "setat")
    clear o2
    walk_at "go"
    refine ⟨for_it (walk_items (kvs := ks)) (fun i σ H' => Stop (∃ (t4 t5 t6 : Option V) (f : Addr) (P' : List Pf), σ = [some (.ref x), some (.int n), some (.int pl), some (.ref f), t4, t5, t6] ∧ Ps (.dp (ks.map Prod.snd) ((ik (qD ss)).map Prod.snd) :: P) P' ∧ Dv1 K P' (.ref f) (srcD (srcOf (ss.take i) n pl)) ∧ Own K H' ((x, .raw (.ins T.C_Queues dx (F_Queues (.int a) (.int b) (.ref l) (.ref s)))) :: (l, .D (ik (qD ls))) :: (s, .raw (.frz od (.dK ks))) :: R) P')) ⟨⟨none, none, none, p, _, rfl, Ps.skip Ps.refl, dv0, hO⟩⟩ (fun i σ H' hi h => ?_) (fun i v σ H1 H' hi h hY => ?_) (fun σ H' h => ?_)⟩
    · obtain ⟨t4, t5, t6, f, P', rfl, sp, df, hO⟩ := h.h
      exact hO.raw (by walk_at "mem")
    · clear hO dv0
      obtain ⟨t4, t5, t6, f, P', rfl, sp, df, hO⟩ := h.h
      clear h
      obtain ⟨t0, kx, vx, rfl, hT, rfl, e1, e2⟩ := hY
      obtain ⟨kv, ekv, rfl⟩ := Option.map_eq_some_iff.mp e1
      obtain rfl : kv.2 = vx := by
        have e2' : ks[i]?.map Prod.snd = some vx := e2
        rw [ekv] at e2'
        exact Option.some.inj e2'
      obtain ⟨r, er, ek⟩ := ik_get hk (k := kv.1) (v := kv.2) ekv
      have er2 := er
      rw [qD, List.getElem?_map] at er2
      obtain ⟨q, hq, rfl⟩ := Option.map_eq_some_iff.mp er2
      rw [ek]
      replace hO := hO.newT (vs := [.int q.1, kv.2]) hT rfl
      obtain ⟨t, a', b', ev, hO⟩ := hO.opn2 (x := oD q.2.1) (y := oD q.2.2) (Dv.get (vs := ks.map Prod.snd) (ds := (ik (qD ss)).map Prod.snd) (Dv.of (List.mem_cons_of_mem _ (sp _ List.mem_cons_self))) (by rw [List.getElem?_map, ekv]; rfl) (i := i) (by simp [ik, qD, hq]))
      obtain rfl : a' = oV q.2.1 := Dv1.opt (Dv1.of (by walk_at "mem")) hO
      obtain rfl : b' = oV q.2.2 := Dv1.opt (Dv1.of (by walk_at "mem")) hO
      rw [ev] at hO ⊢
      have sq4 := (Ps.skip (q := Pf.sq t [oV q.2.1, oV q.2.2]) (Ps.skip (q := Pf.dp [oV q.2.1] [oD q.2.1]) (Ps.skip (q := Pf.dp [oV q.2.2] [oD q.2.2]) (Ps.skip (q := Pf.tup t0 [.int q.1, .ref t]) (Ps.refl (P := P'))))))
      have sp4 := sp.trans sq4
      have hs := srcOf_snoc hq n pl
      replace df := df.mono sq4
      clear er er2 e1 e2 ekv sq4
      obtain ⟨ln, oa, ob⟩ := q
      dsimp only at hO hs sp4 df ⊢
      rw [show kV (Sum.inl ln) = V.int ln from rfl]
      generalize upd H1 t0 (.tup [.int ln, .ref t]) = H3 at hO ⊢
      rcases oa with _ | oa
      · rw [if_neg (by simp)] at hs
        rw [← hs] at df
        walk_at "go"
        refine iteD (fun h1 => ?_) (fun h1 => ?_)
        · walk_at "go"
          exact ⟨⟨_, _, _, _, _, rfl, sp4, df, hO⟩⟩
        · walk_at "go"
          exact ⟨⟨_, _, _, _, _, rfl, sp4, df, hO⟩⟩
      · walk_at "go"
        refine iteD (fun h1 => ?_) (fun h1 => ?_)
        · walk_at "go"
          refine iteD (fun h2 => ?_) (fun h2 => ?_)
          · have e2 : oa = pl := V.int.inj h2
            rw [if_pos ⟨h1, by rw [e2]⟩] at hs
            walk_at "go"
            refine ⟨⟨_, _, _, _, _, rfl, sp4.trans (Ps.skip Ps.refl), ?_, hO⟩⟩
            rw [hs]
            exact Dv1.tup List.mem_cons_self (Dv.cons (Dv1.str _) (Dv.cons (Dv1.int _) (Dv.cons (Dv1.oV _) Dv.nil)))
          · have e2 : oa ≠ pl := fun z => h2 (congrArg V.int z)
            rw [if_neg (by simp [e2])] at hs
            rw [← hs] at df
            walk_at "go"
            exact ⟨⟨_, _, _, _, _, rfl, sp4, df, hO⟩⟩
        · rw [if_neg (by simp [h1])] at hs
          rw [← hs] at df
          walk_at "go"
          exact ⟨⟨_, _, _, _, _, rfl, sp4, df, hO⟩⟩
    · clear hO dv0
      obtain ⟨t4, t5, t6, f, P', rfl, sp, df, hO⟩ := h.h
      clear h
      rw [hll, List.take_length] at df
      walk_at "go"
      refine k f _ P' ((Ps.skip Ps.refl).trans sp) ?_ df
      walk_at "fin"
      · exact hk
      · exact Dv.of (sp _ List.mem_cons_self)
end
end K76

set_option Elab.async false
set_option linter.all false
set_option maxRecDepth 100000
set_option maxHeartbeats 8000000

namespace K76
open PySem PySem.Spec PyProof.Rows L2 Hx 
local macro_rules | `(tactic| walk_at "sm") => `(tactic| repeat' (first | assumption | apply Hx.Same.upd | exact L2.Same.refl _ | apply same_trans'))
local macro_rules | `(tactic| walk_at "hp") => `(tactic| repeat' (first | assumption | exact upd_same | apply old_upd | apply same_at))
local macro_rules | `(tactic| walk_at "rd") => `(tactic| repeat' (first | rfl | apply Exists.intro | apply And.intro | refine iteT ?_ | refine iteF ?_ | exact upd_same | exact SqL.of (by assumption) | exact SqL.of upd_same | exact SqT.of upd_same | exact SqT.of (by assumption) | ((with_reducible show (_ : Int) < _); omega) | ((with_reducible show (_ : Int) ≤ _); omega) | (show (_ : Prop); assumption) | exact Or.inl ⟨_, by assumption, rfl⟩ | exact Or.inl ⟨rfl, _, SqL.of (by assumption)⟩ | exact Or.inl ⟨rfl, _, SqL.of upd_same⟩ | apply old_upd | apply Hx.SqL.new | apply tyl_new | apply Pot.new | exact same_at (by assumption) (by assumption) | exact Or.inl (SqL.of (by assumption)) | exact Or.inl (by assumption) | exact Or.inl (SqL.of upd_same) | exact size_le (Nat.le_of_ble_eq_true rfl) | exact Nat.le_of_ble_eq_true rfl | exact True.intro | exact Or.inl rfl | exact Or.inr rfl | (show (_ : Prop); omega) | (show (_ : Prop); dsimp only; omega) | exact mulw64 (by omega) (by omega) | exact mulw64 (by (try dsimp only); omega) (by (try dsimp only); omega)))
set_option hygiene false in
local macro_rules | `(tactic| walk_at "fl") => `(tactic| simp only [pu_Queues_load_rooms, pi_Queues_load_rooms, pu_Queues_store_rooms, pi_Queues_store_rooms, pu_Queues_loads, pi_Queues_loads, pu_Queues_stores, pi_Queues_stores] at hO)
local macro_rules | `(tactic| walk_at "mem") => `(tactic| ((repeat (first | exact List.Mem.head _ | apply List.Mem.tail | fail)); done))
local macro_rules | `(tactic| walk_at "setat") => `(tactic| ((repeat (first | (with_reducible exact At.head) | (with_reducible apply At.tail) | (with_reducible apply At.app) | fail)); done))
set_option hygiene false in
local macro_rules | `(tactic| walk_at "dv") => `(tactic| ((repeat' (first | exact Dv.nil | exact Dv.of (by walk_at "mem") | exact Dv.ints _ | exact Dv1.of (by walk_at "mem") | exact Dv1.int _ | exact Dv1.non | exact Dv1.bl _ | exact Dv1.str _ | (with_reducible apply Dv.cons) | refine Dv1.tup (by walk_at "mem") ?_ | refine Dv1.lst (by walk_at "mem") ?_ | (with_reducible apply Dv.app) | fail)); done))
local macro_rules | `(tactic| walk_at "ft") => `(tactic| (first | (with_reducible exact Ft.refl) | ((with_reducible apply Ft.toL); focus walk_at "dv") | ((with_reducible apply Ft.toS); focus assumption) | (with_reducible apply Ft.lst) | (with_reducible apply Ft.Le) | (with_reducible apply Ft.dK) | (with_reducible apply Ft.De) | (with_reducible apply Ft.ins) | (with_reducible apply Ft.toL) | (with_reducible apply Ft.toS) | (with_reducible apply Ft.toD) | fail))
local macro_rules | `(tactic| walk_at "sbL") => `(tactic| repeat' (first | (with_reducible exact Sb.refl _) | exact Sb.nil | (with_reducible apply Sb.cons) | (with_reducible apply Sb.app) | (with_reducible exact Pk.one) | (with_reducible exact Pk.here) | (with_reducible exact Pk.all) | (with_reducible apply Pk.skip1) | (with_reducible apply Pk.skipB) | (with_reducible apply Sb.skip) | (with_reducible apply Sb.skipB) | ((with_reducible show Ft _ _ _ _); walk_at "ft") | ((with_reducible show (_ : List _) = _); (first | rfl | (simp [List.map_set, List.map_append]; done) | fail)) | fail))
local macro_rules | `(tactic| walk_at "sb") => `(tactic| ((walk_at "sbL"); done))
local macro_rules | `(tactic| walk_at "ps") => `(tactic| ((repeat' (first | (with_reducible exact Ps.refl) | exact Ps.nil | (with_reducible apply Ps.cons) | exact List.Mem.head _ | apply List.Mem.tail | (with_reducible apply Ps.skip) | fail)); done))
set_option hygiene false in
local macro_rules | `(tactic| walk_at "at") => `(tactic| first | assumption | exact Own.raw hO (by walk_at "mem") | exact Own.ptup hO (by walk_at "mem") | exact Own.plst hO (by walk_at "mem") | fail)
set_option hygiene false in
local macro_rules | `(tactic| walk_at "st") => `(tactic| (rw [upd_mkO hO]; generalize e : updX _ _ _ = H1; (first | ((apply Own.cset hO e); (focus walk_at "setat"); (try clear hO e); intro hO) | ((apply Own.cnewT hO e); (focus assumption); (try clear hO e); intro hO) | ((apply Own.cnew hO e); (focus assumption); (try clear hO e); intro hO) | fail)))
set_option hygiene false in
local macro_rules | `(tactic| walk_at "mk") => `(tactic| (intro p1 p2 f1 f2 f3; rw [upd_mkO hO]; generalize e : upd (updX _ _ _) _ _ = H1; apply Own.cmake hO f1 f2 f3 e; (try clear hO e); intro hO))
set_option hygiene false in
local macro_rules | `(tactic| walk_at "own") => `(tactic| (first | ((apply Own.sub hO); (focus walk_at "sb"); (focus walk_at "ps")) | ((apply Own.sub hF); (focus walk_at "sb"); (focus walk_at "ps")) | fail))
set_option hygiene false in
local macro_rules | `(tactic| walk_at "fin") => `(tactic| (refine Own.sub hO ?_ (by walk_at "ps"); walk_at "sbL"))
set_option hygiene false in
local macro_rules | `(tactic| walk_at "g1") => `(tactic| (first
 | ((with_reducible show (_ : Option HO) = _); walk_at "at")
 | ((with_reducible show (_ : Int) < _); omega) | ((with_reducible show (_ : Int) ≤ _); omega)
 | ((with_reducible show (_ : Nat) < _); (first | assumption | exact Nat.le_of_ble_eq_true rfl | exact size_lt (Nat.le_of_ble_eq_true rfl) | omega | (simp; done) | (simp; omega) | fail))
 | ((with_reducible show (_ : Nat) ≤ _); (first | assumption | exact Nat.le_of_ble_eq_true rfl | exact size_le (Nat.le_of_ble_eq_true rfl) | omega | (simp; done) | (simp; omega) | fail))
 | ((with_reducible show Own _ _ _ _); (first | walk_at "own" | (walk_at "st"; walk_at "own") | fail))
 | ((with_reducible show SqL _ _ _ _); (first | assumption | exact SqL.of (by walk_at "at") | fail))
 | ((with_reducible show SqT _ _ _ _); (first | assumption | exact hO.psq (by walk_at "mem") | exact SqT.of (by walk_at "at") | fail))
  | ((with_reducible show Cls _ _); exact Txt.cl_Queues T) | ((with_reducible show NoAttr _ _ _); exact Txt.n_Queues_load_rooms T) | (with_reducible exact gt_Queues_load_rooms) | ((with_reducible show NoAttr _ _ _); exact Txt.n_Queues_store_rooms T) | (with_reducible exact gt_Queues_store_rooms) | ((with_reducible show NoAttr _ _ _); exact Txt.n_Queues_loads T) | (with_reducible exact gt_Queues_loads) | ((with_reducible show NoAttr _ _ _); exact Txt.n_Queues_stores T) | (with_reducible exact gt_Queues_stores)  | ((with_reducible show V.ref _ = V.ref _); (first | rfl | fail))
 | ((with_reducible show DGet _ _ _ _); (first | exact DGet.ki (by walk_at "at") (by assumption) | exact DGet.kiF (by walk_at "at") (by assumption) | fail))
 | ((with_reducible show DPut _ _ _ _ _); exact DPut.ki (by walk_at "at") (by assumption))
 | ((with_reducible show Rd _ _ _); (first | exact Or.inl (by walk_at "at") | exact Or.inr ⟨_, by walk_at "at"⟩ | fail))
 | ((with_reducible show (∃ _ : List (Key × V), _) ∨ _); refine Or.inl ⟨_, by walk_at "at", ?_⟩)
 | ((with_reducible show Dv _ _ _ _); focus walk_at "dv") | ((with_reducible show Dv1 _ _ _ _); focus walk_at "dv")
 | ((with_reducible show IsD _ _); exact Or.inl ⟨_, Or.inl (by walk_at "at")⟩)
 | ((with_reducible show V.int _ = kV _); exact kV_int)
 | ((with_reducible show Option.isSome _ = true); (first | exact isSome_ofV (by assumption) | assumption | fail))
 | ((with_reducible show SqL _ _ _ _ ∨ SqT _ _ _ _); (first | exact Or.inl (by assumption) | exact Or.inr (by assumption) | exact Or.inl (SqL.of (by walk_at "at")) | exact Or.inr (SqT.of (by walk_at "at")) | fail))
 | ((with_reducible show Dp _ _ _ _); (first | assumption | exact hO.dpL (by walk_at "mem") | exact .lst (SqL.of (by walk_at "at")) (hO.all (by walk_at "dv")) | exact hO.one (by walk_at "dv") | fail))
 | ((with_reducible show TruV _ _ _ _); (first | exact Or.inl ⟨_, SqL.of (by walk_at "at"), rfl⟩ | exact Or.inr (Or.inr ⟨_, by walk_at "at", rfl⟩) | exact Or.inr (Or.inl ⟨_, SqT.of (by walk_at "at"), rfl⟩) | fail))
 | ((with_reducible show RgOk _ _); exact RgOk.of_le (by omega) (by omega) (by omega) (by omega))
 | rfl | (with_reducible assumption) | apply And.intro | apply Exists.intro | refine iteT ?_ | refine iteF ?_
 | (walk_at "st"; (try walk_at "fl"))
 | ((with_reducible show ∀ _ : Addr, _ = none → _); (fail_if_success (with_reducible show ∀ _ : Addr, _ = none → ∃ _ : Nat → Nat → Hp → Prop, _)); intro p fp; walk_at "st")
 | (refine Or.inl ⟨SqL.of (by walk_at "at"), ?_⟩) | (refine Or.inr ⟨SqT.of (by walk_at "at"), ?_⟩) | exact Or.inl ⟨_, by walk_at "at", rfl⟩ | exact Or.inl ⟨rfl, _, SqL.of (by walk_at "at")⟩ | exact tyl_of (by walk_at "at") | exact Or.inl (SqL.of (by walk_at "at")) | exact Or.inr (SqT.of (by walk_at "at")) | exact Or.inl (by walk_at "at") | exact size_le (Nat.le_of_ble_eq_true rfl) | exact Nat.le_of_ble_eq_true rfl | exact True.intro | exact Or.inl rfl | exact Or.inr rfl | (show (_ : Prop); assumption) | (show (_ : Prop); omega) | (show (_ : Prop); dsimp only; omega) | exact mulw64 (by omega) (by omega) | exact mulw64 (by (try dsimp only); omega) (by (try dsimp only); omega) | fail))
local macro_rules | `(tactic| walk_at "go") => `(tactic| repeat walk_at "g1")

section
variable {P : Program} {w : World} {K : PySem.W.Frag} {mg : Str → Option Value} {base : Heap}
theorem iteT' {c : Prop} [Decidable c] {α β : Prop} (h : c) (k : α) : if decide c = true then α else β := by rw [if_pos (decide_eq_true h)]; exact k
def sp_issrc (K : PySem.W.Frag) (C : Addr) : Sp := fun vs H Q _ => ∃ (x dx l s : Addr) (a b v n pl : Int) (ow : Option Int) (ss : List QR) (R : List (Addr × Ob)) (P : List Pf), vs = [.ref x, .int v, .int n, .int pl] ∧ Own K H ((x, .raw (.ins C dx (F_Queues (.int a) (.int b) (.ref l) (.ref s)))) :: (s, .D (ik (qD ss))) :: R) P ∧ 0 ≤ v ∧ v < n ∧ (qkeys ss).Nodup ∧ (v, some pl, ow) ∈ ss ∧ Q (.bl true) H
theorem ok_Queuesis_source (T : Txt K mg) : FnOk P w K mg base CX0 4 T.f_Queuesis_source T.fd_Queuesis_source ["self", "value", "number", "place"] (sp_issrc K T.C_Queues) := by
  have G__is_one_of := ok__is_one_of (P := P) (w := w) (base := base) T
  refine T.F_Queuesis_source.ok sc_Queuesis_source (fun vs H Q E h => ?_) (fun cdv A outer s H vs Q E hr h => ?_)
  · obtain ⟨x, dx, l, s, a, b, v, n, pl, ow, ss, R, P, rfl, hO, hv0, hvn, hnd, hm, k⟩ := h; rfl
  · obtain ⟨x, dx, l, s, a, b, v, n, pl, ow, ss, R, P, rfl, hO, hv0, hvn, hnd, hm, k⟩ := h
    refine ⟨_, (pss_one (ps_ret (pe_and (pe_call G__is_one_of (hr.mono (by decide)) rfl T.g__is_one_of T.F__is_one_of.kp T.b__is_one_of .nil pass0 (pa_cons (pe_fld (pv 0) rfl) (pa_cons (pv 1) pa_nil))) (pe_and (pe_cmpR op_lt (pv 1) (pv 2) (nomark _)) (pe_one (pe_cmpR op_eq (pe_ix ix_tup (pe_dget (hu_of hr) (pe_fld (pv 0) rfl) (pv 1) (fun _ _ => rfl)) pe_int (fun _ _ => rfl)) (pv 3) (nomark _))))))), ?_⟩
    clear G__is_one_of
    clear hr
    have hin : v ∈ (qD ss).map Prod.fst := by rw [qD_keys]; exact List.mem_map.mpr ⟨_, hm, rfl⟩
    have hF := hO
    obtain ⟨ks, hk, o1⟩ := hO.openD (a := s) (by walk_at "mem")
    replace hO := o1 _ (by walk_at "setat")
    clear o1
    have vd : valD (ik (qD ss)) (Sum.inl v) = some (.tuple [.int pl, oD ow]) := find_row hnd hm
    obtain ⟨u, hu⟩ := valV_of hk vd
    have dv := Dv.val (K := K) (P := .dp (ks.map Prod.snd) ((ik (qD ss)).map Prod.snd) :: P) (Dv.of List.mem_cons_self) hk hu vd
    obtain ⟨t, a', b', rfl, hO⟩ := hO.opn2 (x := .int pl) (y := oD ow) dv
    obtain rfl := Dv1.intD (Dv1.of (by walk_at "mem")) hO
    walk_at "go"
    rw [decide_eq_true hin]
    walk_at "go"
    refine iteT' hvn ?_
    walk_at "go"
    exact qbl k (decide_eq_true rfl)
def sp_read (K : PySem.W.Frag) (C : Addr) : Sp := fun vs H Q _ => ∃ (x dx l s : Addr) (a b n pl : Int) (o : Option Int) (ls ss : List QR) (R : List (Addr × Ob)) (P : List Pf), vs = [.ref x, .int n, .int pl, oV o] ∧ Own K H (qu C x dx l s a b ls ss ++ R) P ∧ 0 ≤ n ∧ (0 ≤ pl ∧ pl < 1024) ∧ (qkeys ls).Nodup ∧ (n, none, none) ∈ ls ∧ ls.length ≤ 100 ∧ ss.length ≤ 100 ∧ (qkeys ss).Nodup ∧
  (∀ v, o = some v → 0 ≤ v ∧ v < n ∧ ∃ ow, (v, some pl, ow) ∈ ss) ∧ ∀ (H' : Hp) (P' : List Pf), Ps P P' → Own K H' (qu C x dx l s a b (setW ls n (some pl) o) ss ++ R) P' → Q .non H'
theorem ok_Queues_read (T : Txt K mg) : FnOk P w K mg base CX0 5 T.f_Queues_read T.fd_Queues_read ["self", "number", "place", "source"] (sp_read K T.C_Queues) := by
  have G__need_one_of := ok__need_one_of (P := P) (w := w) (base := base) T
  have G_need_place := ok_need_place (P := P) (w := w) (base := base) T
  have G_Queuesis_source := ok_Queuesis_source (P := P) (w := w) (base := base) T
  refine T.F_Queues_read.ok sc_Queues_read (fun vs H Q E h => ?_) (fun cdv A outer s H vs Q E hr h => ?_)
  · obtain ⟨x, dx, l, s, a, b, n, pl, o, ls, ss, R, P, rfl, hO, hn, hp, hnd, hm, hl1, hs1, hns, hsrc, k⟩ := h; rfl
  · obtain ⟨x, dx, l, s, a, b, n, pl, o, ls, ss, R, P, rfl, hO, hn, hp, hnd, hm, hl1, hs1, hns, hsrc, k⟩ := h
    refine ⟨_, (pss_cons (ps_expr (pe_call G__need_one_of (hr.mono (by decide)) rfl T.g__need_one_of T.F__need_one_of.kp T.b__need_one_of .nil pass0 (pa_cons (pe_fld (pv 0) rfl) (pa_cons (pv 1) pa_nil))))
        (pss_cons (ps_expr (pe_call G_need_place (hr.mono (by decide)) rfl T.g_need_place T.F_need_place.kp T.b_need_place .nil pass0 (pa_cons (pv 2) pa_nil)))
        (pss_cons (ps_if (PW.pt (pw_and (pt_cmpR op_notN (pv 3) pe_non (nomark _)) (pw_and1 (pt_not (pt_val (pe_meth (pv 0) T.cl_Queues T.me_Queuesis_source G_Queuesis_source (hr.mono (by decide)) T.b_Queuesis_source .nil pass0 (pa_cons (pv 3) (pa_cons (pv 1) (pa_cons (pv 2) pa_nil)))))))))
          (pss_one ps_never)
          pss_nil)
        (pss_cons (ps_if (pt_cmpR (op_neD hr.units) (pe_dget (hu_of hr) (pe_fld (pv 0) rfl) (pv 1) (fun _ _ => rfl)) (pe_glob (v := .ref T.aN) rfl T.gN rfl) (nomark _))
          (pss_one ps_never)
          pss_nil)
        (pss_one (ps_dput (hu_of hr) (pe_fld (pv 0) rfl) (pv 1) (pe_tup (pa_cons (pv 2) (pa_cons (pv 3) pa_nil))) rfl)))))), ?_⟩
    clear G__need_one_of G_need_place G_Queuesis_source
    clear hr
    have hin : n ∈ (qD ls).map Prod.fst := by rw [qD_keys]; exact List.mem_map.mpr ⟨_, hm, rfl⟩
    simp only [qu, List.cons_append, List.nil_append] at hO k
    have hF := hO
    obtain ⟨ks, hk2, o2⟩ := hO.openD (a := l) (by walk_at "mem")
    replace hO := o2 _ (by walk_at "setat")
    clear o2
    have hl := ik_len hk2
    rw [qD_len] at hl
    have vd : valD (ik (qD ls)) (Sum.inl n) = some (.tuple [.none, .none]) := find_row hnd hm
    obtain ⟨v, hv⟩ := valV_of hk2 vd
    have dv := Dv.val (K := K) (P := .dp (ks.map Prod.snd) ((ik (qD ls)).map Prod.snd) :: P) (Dv.of List.mem_cons_self) hk2 hv vd
    have hd1 := hO.one dv
    have hd2 := hO.one (dvN T _)
    have s1 := shN
    have szk : ks.length < sizeLine := size_lt (by omega)
    rcases o with _ | o
    · walk_at "go"
      rw [← qD_put (by rwa [qD_keys] at hin)] at k
      refine k _ _ ?_ (Own.sub hO ?_ Ps.refl)
      · walk_at "ps"
      walk_at "sbL"
      · exact putK_fst hk2 _ _ _
      · exact Dv.put (Dv.of (by walk_at "mem")) hk2 (Dv1.tup List.mem_cons_self (Dv.cons (Dv1.int _) (Dv.cons (Dv1.oV _) Dv.nil)))
    · obtain ⟨o0, on, ow, hmo⟩ := hsrc o rfl
      walk_at "go"
      rw [← qD_put (by rwa [qD_keys] at hin)] at k
      refine k _ _ ?_ (Own.sub hO ?_ Ps.refl)
      · walk_at "ps"
      walk_at "sbL"
      · exact putK_fst hk2 _ _ _
      · exact Dv.put (Dv.of (by walk_at "mem")) hk2 (Dv1.tup List.mem_cons_self (Dv.cons (Dv1.int _) (Dv.cons (Dv1.oV _) Dv.nil)))
theorem qD_drop (rs : List QR) (n : Int) : dropD (ik (qD rs)) (Sum.inl n) = ik (qD (rs.filter fun r => decide (r.1 ≠ n))) := by
  rw [ik_drop, qD, List.filter_map]; rfl
theorem drop_not {rs : List QR} {n : Int} (h : n ∉ qkeys rs) : (rs.filter fun r => decide (r.1 ≠ n)) = rs := List.filter_eq_self.mpr fun r hr => decide_eq_true fun e => h (List.mem_map.mpr ⟨r, hr, e⟩)
def sp_leave (K : PySem.W.Frag) (C : Addr) : Sp := fun vs H Q _ => ∃ (x dx l s : Addr) (a b n : Int) (ls ss : List QR) (R : List (Addr × Ob)) (P : List Pf), vs = [.ref x, .int n] ∧ Own K H (qu C x dx l s a b ls ss ++ R) P ∧ 0 ≤ n ∧ n ∈ qkeys ls ++ qkeys ss ∧ (∀ z ∈ qkeys ls ++ qkeys ss, n ≤ z) ∧ (n ∈ qkeys ls → n ∉ qkeys ss) ∧ ls.length ≤ 100 ∧ ss.length ≤ 100 ∧
  ∀ (H' : Hp) (P' : List Pf), Ps P P' → Own K H' (qu C x dx l s a b (ls.filter fun r => decide (r.1 ≠ n)) (ss.filter fun r => decide (r.1 ≠ n)) ++ R) P' → Q .non H'
theorem ok_Queues_leave (T : Txt K mg) : FnOk P w K mg base CX0 5 T.f_Queues_leave T.fd_Queues_leave ["self", "number"] (sp_leave K T.C_Queues) := by
  have G__is_one_of := ok__is_one_of (P := P) (w := w) (base := base) T
  have G__need_one_of := ok__need_one_of (P := P) (w := w) (base := base) T
  have G_Queuesall_numbers := ok_Queuesall_numbers (P := P) (w := w) (base := base) T
  refine T.F_Queues_leave.ok sc_Queues_leave (fun vs H Q E h => ?_) (fun cdv A outer s H vs Q E hr h => ?_)
  · obtain ⟨x, dx, l, s, a, b, n, ls, ss, R, P, rfl, hO, hn, hm, hle, hdis, hl1, hs1, k⟩ := h; rfl
  · obtain ⟨x, dx, l, s, a, b, n, ls, ss, R, P, rfl, hO, hn, hm, hle, hdis, hl1, hs1, k⟩ := h
    refine ⟨_, (pss_cons (ps_set (i := 2) sc_Queues_leave.nd rfl (Or.inl rfl) (pe_ifExp (pt_val (pe_call G__is_one_of (hr.mono (by decide)) rfl T.g__is_one_of T.F__is_one_of.kp T.b__is_one_of .nil pass0 (pa_cons (pe_fld (pv 0) rfl) (pa_cons (pv 1) pa_nil)))) (pe_fld (pv 0) rfl) (pe_fld (pv 0) rfl)))
        (pss_cons (ps_expr (pe_call G__need_one_of (hr.mono (by decide)) rfl T.g__need_one_of T.F__need_one_of.kp T.b__need_one_of .nil pass0 (pa_cons (pv 2) (pa_cons (pv 1) pa_nil))))
        (pss_cons (ps_if (pt_cmpR op_ne (pv 1) (pe_callB (cr_min rfl) (by rfl) T.m_min (by decide +kernel) (pa_cons (pe_meth0 (pv 0) T.cl_Queues T.me_Queuesall_numbers G_Queuesall_numbers (hr.mono (by decide)) T.b_Queuesall_numbers .nil pass0) pa_nil)) (nomark _))
          (pss_one ps_never)
          pss_nil)
        (pss_one (ps_ddel (pv 2) (pv 1)))))), ?_⟩
    clear G__is_one_of G__need_one_of G_Queuesall_numbers
    clear hr
    have hF := hO
    simp only [qu, List.cons_append, List.nil_append] at hO k
    by_cases hL : n ∈ qkeys ls
    · have hin : n ∈ (qD ls).map Prod.fst := by rw [qD_keys]; exact hL
      walk_at "go"
      rw [decide_eq_true hin]
      walk_at "go"
      intro p H2 P2 sp2 hO
      simp only [qu, List.cons_append, List.nil_append] at hO
      clear hF
      obtain ⟨kl, hk, o1⟩ := hO.openD (a := l) (by walk_at "mem")
      replace hO := o1 _ (by walk_at "setat")
      clear o1
      have hpos : 0 < (qkeys ls ++ qkeys ss).length := List.length_pos_of_mem hm
      have his := (ik_isSome hk n).trans (decide_eq_true hin)
      walk_at "go"
      intro m hm1 hm2
      obtain rfl : m = n := Int.le_antisymm (hm2 _ hm) (hle _ hm1)
      walk_at "go"
      rw [decide_eq_true (rfl : V.int m = V.int m)]
      walk_at "go"
      rw [drop_not (hdis hL), ← qD_drop] at k
      refine k _ _ ?_ (Own.sub hO ?_ Ps.refl)
      · exact sp2.trans (Ps.skip Ps.refl)
      walk_at "sbL"
      · exact dropK_fst _ hk
      · exact Dv.drop' (Dv.of (by walk_at "mem")) hk
    · have hin : n ∉ (qD ls).map Prod.fst := by rw [qD_keys]; exact hL
      have hS : n ∈ (qD ss).map Prod.fst := by rw [qD_keys]; exact (List.mem_append.mp hm).resolve_left hL
      walk_at "go"
      rw [decide_eq_false hin]
      walk_at "go"
      intro p H2 P2 sp2 hO
      simp only [qu, List.cons_append, List.nil_append] at hO
      clear hF
      obtain ⟨kl, hk, o1⟩ := hO.openD (a := s) (by walk_at "mem")
      replace hO := o1 _ (by walk_at "setat")
      clear o1
      have hpos : 0 < (qkeys ls ++ qkeys ss).length := List.length_pos_of_mem hm
      have his := (ik_isSome hk n).trans (decide_eq_true hS)
      walk_at "go"
      intro m hm1 hm2
      obtain rfl : m = n := Int.le_antisymm (hm2 _ hm) (hle _ hm1)
      walk_at "go"
      rw [decide_eq_true (rfl : V.int m = V.int m)]
      walk_at "go"
      rw [drop_not hL, ← qD_drop] at k
      refine k _ _ ?_ (Own.sub hO ?_ Ps.refl)
      · exact sp2.trans (Ps.skip Ps.refl)
      walk_at "sbL"
      · exact dropK_fst _ hk
      · exact Dv.drop' (Dv.of (by walk_at "mem")) hk
end
end K76

set_option Elab.async false
set_option linter.all false
set_option maxRecDepth 100000
set_option maxHeartbeats 8000000

namespace K76
open PySem PySem.Spec PyProof.Rows L2 Hx 
local macro_rules | `(tactic| walk_at "sm") => `(tactic| repeat' (first | assumption | apply Hx.Same.upd | exact L2.Same.refl _ | apply same_trans'))
local macro_rules | `(tactic| walk_at "hp") => `(tactic| repeat' (first | assumption | exact upd_same | apply old_upd | apply same_at))
local macro_rules | `(tactic| walk_at "rd") => `(tactic| repeat' (first | rfl | apply Exists.intro | apply And.intro | refine iteT ?_ | refine iteF ?_ | exact upd_same | exact SqL.of (by assumption) | exact SqL.of upd_same | exact SqT.of upd_same | exact SqT.of (by assumption) | ((with_reducible show (_ : Int) < _); omega) | ((with_reducible show (_ : Int) ≤ _); omega) | (show (_ : Prop); assumption) | exact Or.inl ⟨_, by assumption, rfl⟩ | exact Or.inl ⟨rfl, _, SqL.of (by assumption)⟩ | exact Or.inl ⟨rfl, _, SqL.of upd_same⟩ | apply old_upd | apply Hx.SqL.new | apply tyl_new | apply Pot.new | exact same_at (by assumption) (by assumption) | exact Or.inl (SqL.of (by assumption)) | exact Or.inl (by assumption) | exact Or.inl (SqL.of upd_same) | exact size_le (Nat.le_of_ble_eq_true rfl) | exact Nat.le_of_ble_eq_true rfl | exact True.intro | exact Or.inl rfl | exact Or.inr rfl | (show (_ : Prop); omega) | (show (_ : Prop); dsimp only; omega) | exact mulw64 (by omega) (by omega) | exact mulw64 (by (try dsimp only); omega) (by (try dsimp only); omega)))
set_option hygiene false in
local macro_rules | `(tactic| walk_at "fl") => `(tactic| simp only [pu_Queues_load_rooms, pi_Queues_load_rooms, pu_Queues_store_rooms, pi_Queues_store_rooms, pu_Queues_loads, pi_Queues_loads, pu_Queues_stores, pi_Queues_stores] at hO)
local macro_rules | `(tactic| walk_at "mem") => `(tactic| ((repeat (first | exact List.Mem.head _ | apply List.Mem.tail | fail)); done))
local macro_rules | `(tactic| walk_at "setat") => `(tactic| ((repeat (first | (with_reducible exact At.head) | (with_reducible apply At.tail) | (with_reducible apply At.app) | fail)); done))
set_option hygiene false in
local macro_rules | `(tactic| walk_at "dv") => `(tactic| ((repeat' (first | exact Dv.nil | exact Dv.of (by walk_at "mem") | exact Dv.ints _ | exact Dv1.of (by walk_at "mem") | exact Dv1.int _ | exact Dv1.non | exact Dv1.bl _ | exact Dv1.str _ | (with_reducible apply Dv.cons) | refine Dv1.tup (by walk_at "mem") ?_ | refine Dv1.lst (by walk_at "mem") ?_ | (with_reducible apply Dv.app) | fail)); done))
local macro_rules | `(tactic| walk_at "ft") => `(tactic| (first | (with_reducible exact Ft.refl) | ((with_reducible apply Ft.toL); focus walk_at "dv") | ((with_reducible apply Ft.toS); focus assumption) | (with_reducible apply Ft.lst) | (with_reducible apply Ft.Le) | (with_reducible apply Ft.dK) | (with_reducible apply Ft.De) | (with_reducible apply Ft.ins) | (with_reducible apply Ft.toL) | (with_reducible apply Ft.toS) | (with_reducible apply Ft.toD) | fail))
local macro_rules | `(tactic| walk_at "sbL") => `(tactic| repeat' (first | (with_reducible exact Sb.refl _) | exact Sb.nil | (with_reducible apply Sb.cons) | (with_reducible apply Sb.app) | (with_reducible exact Pk.one) | (with_reducible exact Pk.here) | (with_reducible exact Pk.all) | (with_reducible apply Pk.skip1) | (with_reducible apply Pk.skipB) | (with_reducible apply Sb.skip) | (with_reducible apply Sb.skipB) | ((with_reducible show Ft _ _ _ _); walk_at "ft") | ((with_reducible show (_ : List _) = _); (first | rfl | (simp [List.map_set, List.map_append]; done) | fail)) | fail))
local macro_rules | `(tactic| walk_at "sb") => `(tactic| ((walk_at "sbL"); done))
local macro_rules | `(tactic| walk_at "ps") => `(tactic| ((repeat' (first | (with_reducible exact Ps.refl) | exact Ps.nil | (with_reducible apply Ps.cons) | exact List.Mem.head _ | apply List.Mem.tail | (with_reducible apply Ps.skip) | fail)); done))
set_option hygiene false in
local macro_rules | `(tactic| walk_at "at") => `(tactic| first | assumption | exact Own.raw hO (by walk_at "mem") | exact Own.ptup hO (by walk_at "mem") | exact Own.plst hO (by walk_at "mem") | fail)
set_option hygiene false in
local macro_rules | `(tactic| walk_at "st") => `(tactic| (rw [upd_mkO hO]; generalize e : updX _ _ _ = H1; (first | ((apply Own.cset hO e); (focus walk_at "setat"); (try clear hO e); intro hO) | ((apply Own.cnewT hO e); (focus assumption); (try clear hO e); intro hO) | ((apply Own.cnew hO e); (focus assumption); (try clear hO e); intro hO) | fail)))
set_option hygiene false in
local macro_rules | `(tactic| walk_at "mk") => `(tactic| (intro p1 p2 f1 f2 f3; rw [upd_mkO hO]; generalize e : upd (updX _ _ _) _ _ = H1; apply Own.cmake hO f1 f2 f3 e; (try clear hO e); intro hO))
set_option hygiene false in
local macro_rules | `(tactic| walk_at "own") => `(tactic| (first | ((apply Own.sub hO); (focus walk_at "sb"); (focus walk_at "ps")) | ((apply Own.sub hF); (focus walk_at "sb"); (focus walk_at "ps")) | fail))
set_option hygiene false in
local macro_rules | `(tactic| walk_at "fin") => `(tactic| (refine Own.sub hO ?_ (by walk_at "ps"); walk_at "sbL"))
set_option hygiene false in
local macro_rules | `(tactic| walk_at "g1") => `(tactic| (first
 | ((with_reducible show (_ : Option HO) = _); walk_at "at")
 | ((with_reducible show (_ : Int) < _); omega) | ((with_reducible show (_ : Int) ≤ _); omega)
 | ((with_reducible show (_ : Nat) < _); (first | assumption | exact Nat.le_of_ble_eq_true rfl | exact size_lt (Nat.le_of_ble_eq_true rfl) | omega | (simp; done) | (simp; omega) | fail))
 | ((with_reducible show (_ : Nat) ≤ _); (first | assumption | exact Nat.le_of_ble_eq_true rfl | exact size_le (Nat.le_of_ble_eq_true rfl) | omega | (simp; done) | (simp; omega) | fail))
 | ((with_reducible show Own _ _ _ _); (first | walk_at "own" | (walk_at "st"; walk_at "own") | fail))
 | ((with_reducible show SqL _ _ _ _); (first | assumption | exact SqL.of (by walk_at "at") | fail))
 | ((with_reducible show SqT _ _ _ _); (first | assumption | exact hO.psq (by walk_at "mem") | exact SqT.of (by walk_at "at") | fail))
  | ((with_reducible show Cls _ _); exact Txt.cl_Queues T) | ((with_reducible show NoAttr _ _ _); exact Txt.n_Queues_load_rooms T) | (with_reducible exact gt_Queues_load_rooms) | ((with_reducible show NoAttr _ _ _); exact Txt.n_Queues_store_rooms T) | (with_reducible exact gt_Queues_store_rooms) | ((with_reducible show NoAttr _ _ _); exact Txt.n_Queues_loads T) | (with_reducible exact gt_Queues_loads) | ((with_reducible show NoAttr _ _ _); exact Txt.n_Queues_stores T) | (with_reducible exact gt_Queues_stores)  | ((with_reducible show V.ref _ = V.ref _); (first | rfl | fail))
 | ((with_reducible show DGet _ _ _ _); (first | exact DGet.ki (by walk_at "at") (by assumption) | exact DGet.kiF (by walk_at "at") (by assumption) | fail))
 | ((with_reducible show DPut _ _ _ _ _); exact DPut.ki (by walk_at "at") (by assumption))
 | ((with_reducible show Rd _ _ _); (first | exact Or.inl (by walk_at "at") | exact Or.inr ⟨_, by walk_at "at"⟩ | fail))
 | ((with_reducible show (∃ _ : List (Key × V), _) ∨ _); refine Or.inl ⟨_, by walk_at "at", ?_⟩)
 | ((with_reducible show Dv _ _ _ _); focus walk_at "dv") | ((with_reducible show Dv1 _ _ _ _); focus walk_at "dv")
 | ((with_reducible show IsD _ _); exact Or.inl ⟨_, Or.inl (by walk_at "at")⟩)
 | ((with_reducible show V.int _ = kV _); exact kV_int)
 | ((with_reducible show Option.isSome _ = true); (first | exact isSome_ofV (by assumption) | assumption | fail))
 | ((with_reducible show SqL _ _ _ _ ∨ SqT _ _ _ _); (first | exact Or.inl (by assumption) | exact Or.inr (by assumption) | exact Or.inl (SqL.of (by walk_at "at")) | exact Or.inr (SqT.of (by walk_at "at")) | fail))
 | ((with_reducible show Dp _ _ _ _); (first | assumption | exact hO.dpL (by walk_at "mem") | exact .lst (SqL.of (by walk_at "at")) (hO.all (by walk_at "dv")) | exact hO.one (by walk_at "dv") | fail))
 | ((with_reducible show TruV _ _ _ _); (first | exact Or.inl ⟨_, SqL.of (by walk_at "at"), rfl⟩ | exact Or.inr (Or.inr ⟨_, by walk_at "at", rfl⟩) | exact Or.inr (Or.inl ⟨_, SqT.of (by walk_at "at"), rfl⟩) | fail))
 | ((with_reducible show RgOk _ _); exact RgOk.of_le (by omega) (by omega) (by omega) (by omega))
 | rfl | (with_reducible assumption) | apply And.intro | apply Exists.intro | refine iteT ?_ | refine iteF ?_
 | (walk_at "st"; (try walk_at "fl"))
 | ((with_reducible show ∀ _ : Addr, _ = none → _); (fail_if_success (with_reducible show ∀ _ : Addr, _ = none → ∃ _ : Nat → Nat → Hp → Prop, _)); intro p fp; walk_at "st")
 | (refine Or.inl ⟨SqL.of (by walk_at "at"), ?_⟩) | (refine Or.inr ⟨SqT.of (by walk_at "at"), ?_⟩) | exact Or.inl ⟨_, by walk_at "at", rfl⟩ | exact Or.inl ⟨rfl, _, SqL.of (by walk_at "at")⟩ | exact tyl_of (by walk_at "at") | exact Or.inl (SqL.of (by walk_at "at")) | exact Or.inr (SqT.of (by walk_at "at")) | exact Or.inl (by walk_at "at") | exact size_le (Nat.le_of_ble_eq_true rfl) | exact Nat.le_of_ble_eq_true rfl | exact True.intro | exact Or.inl rfl | exact Or.inr rfl | (show (_ : Prop); assumption) | (show (_ : Prop); omega) | (show (_ : Prop); dsimp only; omega) | exact mulw64 (by omega) (by omega) | exact mulw64 (by (try dsimp only); omega) (by (try dsimp only); omega) | fail))
local macro_rules | `(tactic| walk_at "go") => `(tactic| repeat walk_at "g1")

section
variable {P : Program} {w : World} {K : PySem.W.Frag} {mg : Str → Option Value} {base : Heap}
theorem ik_qD (rs : List QR) : ik (qD rs) = rs.map fun r => (Sum.inl r.1, PyData.tuple [oD r.2.1, oD r.2.2]) := by rw [ik, qD, List.map_map]; rfl
def sp_dropped (K : PySem.W.Frag) (C : Addr) : Sp := fun vs H Q _ => ∃ (x dx l s : Addr) (a b n : Int) (ls ss : List QR) (R : List (Addr × Ob)) (P : List Pf), vs = [.ref x, .int n] ∧ Own K H (qu C x dx l s a b ls ss ++ R) P ∧ 0 ≤ n ∧ (qkeys ls).Nodup ∧ (qkeys ss).Nodup ∧ ls.length ≤ 100 ∧ ss.length ≤ 100 ∧
  ∀ (l' s' : Addr) (H' : Hp) (P' : List Pf), Ps P P' → Own K H' (qu C x dx l' s' a b (ls.filter fun r => decide (r.1 < n)) (ss.filter fun r => decide (r.1 < n)) ++ R) P' → Q .non H'
theorem ok_Queues_dropped (T : Txt K mg) : FnOk P w K mg base CX0 4 T.f_Queues_dropped T.fd_Queues_dropped ["self", "number"] (sp_dropped K T.C_Queues) := by
  have G_need_number := ok_need_number (P := P) (w := w) (base := base) T
  refine T.F_Queues_dropped.ok sc_Queues_dropped (fun vs H Q E h => ?_) (fun cdv A outer s H vs Q E hr h => ?_)
  · obtain ⟨x, dx, l, s, a, b, n, ls, ss, R, P, rfl, hO, hn, hnl, hns, hl1, hs1, k⟩ := h; rfl
  · obtain ⟨x, dx, l, s, a, b, n, ls, ss, R, P, rfl, hO, hn, hnl, hns, hl1, hs1, k⟩ := h
    refine ⟨_, (pss_cons (ps_expr (pe_call G_need_number (hr.mono (by decide)) rfl T.g_need_number T.F_need_number.kp T.b_need_number .nil pass0 (pa_cons (pv 1) pa_nil)))
        (pss_cons (ps_fld (pv 0) (pe_lockS (pe_dc (own := [("one", 2), ("kept", 3)]) (g := gTup _ 2 (gCons (gName 2) (gCons (gName 3) gNil)))  rfl sc_Queues_dropped.nd (pi_items (pe_fld (pv 0) rfl)) (blkOk_by (N := ["self", "number", "one", "kept"]) (sc := defScope s_Queues_dropped) (by decide +kernel)) (fun _ _ _ _ _ => pg_pair (i := 2) (j := 3) rfl sc_Queues_dropped.nd rfl rfl (Or.inl rfl) (Or.inl rfl)) (fun _ _ _ _ _ => pts_one (pt_cmpR op_lt (pv 2) (pv 1) (nomark _))) (fun _ _ _ _ _ => (pv 2)) (fun _ _ _ _ _ => (pv 3)))) rfl)
        (pss_one (ps_fld (pv 0) (pe_lockS (pe_dc (own := [("one", 2), ("kept", 3)]) (g := gTup _ 2 (gCons (gName 2) (gCons (gName 3) gNil)))  rfl sc_Queues_dropped.nd (pi_items (pe_fld (pv 0) rfl)) (blkOk_by (N := ["self", "number", "one", "kept"]) (sc := defScope s_Queues_dropped) (by decide +kernel)) (fun _ _ _ _ _ => pg_pair (i := 2) (j := 3) rfl sc_Queues_dropped.nd rfl rfl (Or.inl rfl) (Or.inl rfl)) (fun _ _ _ _ _ => pts_one (pt_cmpR op_lt (pv 2) (pv 1) (nomark _))) (fun _ _ _ _ _ => (pv 2)) (fun _ _ _ _ _ => (pv 3)))) rfl)))), ?_⟩
    clear G_need_number
    clear hr
    simp only [qu, List.cons_append, List.nil_append] at hO k
    obtain ⟨kl, hk, o1⟩ := hO.openD (a := l) (by walk_at "mem")
    replace hO := o1 _ (by walk_at "setat")
    clear o1
    have hll := ik_len hk
    rw [qD_len] at hll
    walk_at "go"
    refine hO.lockE (d := l) (u := .dK kl) (by walk_at "mem") trivial fun od H2 o2 => ?_
    replace hO := o2 _ (by walk_at "setat")
    clear o2
    walk_at "go"
    intro D hD
    refine dc_siftW ls (fun r => r.1) (fun r => .tuple [oD r.2.1, oD r.2.2]) (fun r => decide (r.1 < n)) hnl (by rw [← hll]; exact walk_items) hO hD (by omega) (fun H L' P' s t h => h.raw (s _ (by walk_at "mem"))) (fun i z x H9 H' P' kds Qn Qy hz2 hY sp hO kn ky => ?_) (fun H5 P5 sp5 hO => ?_)
    · obtain ⟨t0, kx, vx, rfl, hT, rfl, e1, e2⟩ := hY
      obtain ⟨kv, ekv, rfl⟩ := Option.map_eq_some_iff.mp e1
      obtain rfl : kv.2 = vx := by
        have e2' : kl[i]?.map Prod.snd = some vx := e2
        rw [ekv] at e2'
        exact Option.some.inj e2'
      obtain ⟨r, er, ek⟩ := ik_get hk (k := kv.1) (v := kv.2) ekv
      rw [qD, List.getElem?_map] at er
      rw [hz2] at er
      obtain rfl := Option.some.inj er
      rw [ek]
      have dv : Dv1 K P' kv.2 (.tuple [oD z.2.1, oD z.2.2]) := Dv.get (vs := kl.map Prod.snd) (ds := (ik (qD ls)).map Prod.snd) (Dv.of (sp _ List.mem_cons_self)) (by rw [List.getElem?_map, ekv]; rfl) (i := i) (by simp [ik, qD, hz2])
      replace hO := hO.newT (vs := [.int z.1, kv.2]) hT rfl
      walk_at "go"
      refine iteD (fun h => ?_) (fun h => ?_)
      · walk_at "go"
        exact ky (decide_eq_true h) _ _ _ (by walk_at "ps") hO (dv.mono (by walk_at "ps"))
      · walk_at "go"
        exact kn (decide_eq_false h) _ _ (by walk_at "ps") hO
    · walk_at "go"
      obtain ⟨ks, hk2, o2⟩ := hO.openD (a := s) (by walk_at "mem")
      replace hO := o2 _ (by walk_at "setat")
      clear o2
      have hll2 := ik_len hk2
      rw [qD_len] at hll2
      walk_at "go"
      refine hO.lockE (d := s) (u := .dK ks) (by walk_at "mem") trivial fun od2 H6 o2 => ?_
      replace hO := o2 _ (by walk_at "setat")
      clear o2
      walk_at "go"
      intro D2 hD2
      refine dc_siftW ss (fun r => r.1) (fun r => .tuple [oD r.2.1, oD r.2.2]) (fun r => decide (r.1 < n)) hns (by rw [← hll2]; exact walk_items) hO hD2 (by omega) (fun H L' P' s t h => h.raw (s _ (by walk_at "mem"))) (fun i z x H9 H' P' kds Qn Qy hz2 hY sp hO kn ky => ?_) (fun H6 P6 sp6 hO => ?_)
      · obtain ⟨t0, kx, vx, rfl, hT, rfl, e1, e2⟩ := hY
        obtain ⟨kv, ekv, rfl⟩ := Option.map_eq_some_iff.mp e1
        obtain rfl : kv.2 = vx := by
          have e2' : ks[i]?.map Prod.snd = some vx := e2
          rw [ekv] at e2'
          exact Option.some.inj e2'
        obtain ⟨r, er, ek⟩ := ik_get hk2 (k := kv.1) (v := kv.2) ekv
        rw [qD, List.getElem?_map] at er
        rw [hz2] at er
        obtain rfl := Option.some.inj er
        rw [ek]
        have dv : Dv1 K P' kv.2 (.tuple [oD z.2.1, oD z.2.2]) := Dv.get (vs := ks.map Prod.snd) (ds := (ik (qD ss)).map Prod.snd) (Dv.of (sp _ List.mem_cons_self)) (by rw [List.getElem?_map, ekv]; rfl) (i := i) (by simp [ik, qD, hz2])
        replace hO := hO.newT (vs := [.int z.1, kv.2]) hT rfl
        walk_at "go"
        refine iteD (fun h => ?_) (fun h => ?_)
        · walk_at "go"
          exact ky (decide_eq_true h) _ _ _ (by walk_at "ps") hO (dv.mono (by walk_at "ps"))
        · walk_at "go"
          exact kn (decide_eq_false h) _ _ (by walk_at "ps") hO
      · walk_at "go"
        rw [ik_qD, ik_qD] at k
        refine k D D2 _ P6 ((Ps.skip Ps.refl).trans (sp5.trans ((Ps.skip Ps.refl).trans sp6))) ?_
        walk_at "fin"
def sp_loads (K : PySem.W.Frag) (C : Addr) : Sp := fun vs H Q _ => ∃ (x dx l s : Addr) (a b : Int) (ls ss : List QR) (R : List (Addr × Ob)) (P : List Pf), vs = [.ref x] ∧ Own K H (qu C x dx l s a b ls ss ++ R) P ∧ ls.length ≤ 100 ∧
  ∀ (p : Addr) (H' : Hp) (P' : List Pf), Ps P P' → Own K H' ((p, .L (ls.map rD)) :: (qu C x dx l s a b ls ss ++ R)) P' → Q (.ref p) H'
theorem ok_Queues_loads (T : Txt K mg) : FnOk P w K mg base CX0 1 T.f_Queues_loads T.fd_Queues_loads ["self"] (sp_loads K T.C_Queues) := by
  refine T.F_Queues_loads.ok sc_Queues_loads (fun vs H Q E h => ?_) (fun cdv A outer s H vs Q E hr h => ?_)
  · obtain ⟨x, dx, l, s, a, b, ls, ss, R, P, rfl, hO, hl1, k⟩ := h; rfl
  · obtain ⟨x, dx, l, s, a, b, ls, ss, R, P, rfl, hO, hl1, k⟩ := h
    refine ⟨_, (pss_one (ps_ret (pe_lockS (pe_lc (own := [("number", 1), ("place", 2), ("source", 3)]) (g := gTup _ 2 (gCons (gName 1) (gCons (gTup _ 2 (gCons (gName 2) (gCons (gName 3) gNil))) gNil))) (tt := tYes) rfl sc_Queues_loads.nd (pi_items (pe_fld (pv 0) rfl)) (blkOk_by (N := ["self", "number", "place", "source"]) (sc := defScope s_Queues_loads) (by decide +kernel)) (fun _ _ _ _ _ => pg_pairN (i := 1) (j := 2) (l := 3) rfl sc_Queues_loads.nd rfl rfl rfl (Or.inl rfl) (Or.inl rfl) (Or.inl rfl)) (fun _ _ _ _ _ => pts_nil) (fun _ _ _ _ _ => (pe_tup (pa_cons (pv 1) (pa_cons (pv 2) (pa_cons (pv 3) pa_nil))))))))), ?_⟩
    clear hr
    simp only [qu, List.cons_append, List.nil_append] at hO k
    obtain ⟨kl, hk, o1⟩ := hO.openD (a := l) (by walk_at "mem")
    replace hO := o1 _ (by walk_at "setat")
    clear o1
    have hll := ik_len hk
    rw [qD_len] at hll
    walk_at "go"
    refine hO.lockE (d := l) (u := .dK kl) (by walk_at "mem") trivial fun od H2 o2 => ?_
    replace hO := o2 _ (by walk_at "setat")
    clear o2
    walk_at "go"
    intro D hD
    refine lc_ownW (walk_items (kvs := kl)) (ls.map rD) hO hD (by rw [List.length_map]; exact hll) (by omega) (fun H L' P' s t h => h.raw (s _ (by walk_at "mem"))) (fun i v d H9 H' P' Qz hi hY hd sp hO kq => ?_) (fun H5 P5 sp5 hO => ?_)
    · obtain ⟨t0, kx, vx, rfl, hT, rfl, e1, e2⟩ := hY
      obtain ⟨kv, ekv, rfl⟩ := Option.map_eq_some_iff.mp e1
      obtain rfl : kv.2 = vx := by
        have e2' : kl[i]?.map Prod.snd = some vx := e2
        rw [ekv] at e2'
        exact Option.some.inj e2'
      obtain ⟨r, er, ek⟩ := ik_get hk (k := kv.1) (v := kv.2) ekv
      rw [qD, List.getElem?_map] at er
      obtain ⟨q, hq, rfl⟩ := Option.map_eq_some_iff.mp er
      rw [List.getElem?_map, hq] at hd
      obtain rfl := Option.some.inj hd
      rw [ek]
      replace hO := hO.newT (vs := [.int q.1, kv.2]) hT rfl
      obtain ⟨t, a', b', ev, hO⟩ := hO.opn2 (x := oD q.2.1) (y := oD q.2.2) (Dv.get (vs := kl.map Prod.snd) (ds := (ik (qD ls)).map Prod.snd) (Dv.of (List.mem_cons_of_mem _ (sp _ List.mem_cons_self))) (by rw [List.getElem?_map, ekv]; rfl) (i := i) (by simp [ik, qD, hq]))
      obtain rfl : a' = oV q.2.1 := Dv1.opt (Dv1.of (by walk_at "mem")) hO
      obtain rfl : b' = oV q.2.2 := Dv1.opt (Dv1.of (by walk_at "mem")) hO
      rw [ev] at hO ⊢
      have sq4 := (Ps.skip (q := Pf.sq t [oV q.2.1, oV q.2.2]) (Ps.skip (q := Pf.dp [oV q.2.1] [oD q.2.1]) (Ps.skip (q := Pf.dp [oV q.2.2] [oD q.2.2]) (Ps.skip (q := Pf.tup t0 [.int q.1, .ref t]) (Ps.refl (P := P'))))))
      dsimp only at hO ⊢
      rw [show kV (Sum.inl q.1) = V.int q.1 from rfl]
      generalize upd H9 t0 (.tup [.int q.1, .ref t]) = H3 at hO ⊢
      walk_at "go"
      exact kq _ _ _ (by walk_at "ps") hO (Dv1.tup List.mem_cons_self (Dv.cons (Dv1.int _) (Dv.cons (Dv1.oV _) (Dv.cons (Dv1.oV _) Dv.nil))))
    · walk_at "go"
      refine k D _ P5 ((Ps.skip Ps.refl).trans sp5) ?_
      walk_at "fin"
      · exact hk
      · exact Dv.of (sp5 _ List.mem_cons_self)
def sp_stores (K : PySem.W.Frag) (C : Addr) : Sp := fun vs H Q _ => ∃ (x dx l s : Addr) (a b : Int) (ls ss : List QR) (R : List (Addr × Ob)) (P : List Pf), vs = [.ref x] ∧ Own K H (qu C x dx l s a b ls ss ++ R) P ∧ ss.length ≤ 100 ∧
  ∀ (p : Addr) (H' : Hp) (P' : List Pf), Ps P P' → Own K H' ((p, .L (ss.map rD)) :: (qu C x dx l s a b ls ss ++ R)) P' → Q (.ref p) H'
theorem ok_Queues_stores (T : Txt K mg) : FnOk P w K mg base CX0 1 T.f_Queues_stores T.fd_Queues_stores ["self"] (sp_stores K T.C_Queues) := by
  refine T.F_Queues_stores.ok sc_Queues_stores (fun vs H Q E h => ?_) (fun cdv A outer s H vs Q E hr h => ?_)
  · obtain ⟨x, dx, l, s, a, b, ls, ss, R, P, rfl, hO, hl1, k⟩ := h; rfl
  · obtain ⟨x, dx, l, s, a, b, ls, ss, R, P, rfl, hO, hl1, k⟩ := h
    refine ⟨_, (pss_one (ps_ret (pe_lockS (pe_lc (own := [("number", 1), ("place", 2), ("word", 3)]) (g := gTup _ 2 (gCons (gName 1) (gCons (gTup _ 2 (gCons (gName 2) (gCons (gName 3) gNil))) gNil))) (tt := tYes) rfl sc_Queues_stores.nd (pi_items (pe_fld (pv 0) rfl)) (blkOk_by (N := ["self", "number", "place", "word"]) (sc := defScope s_Queues_stores) (by decide +kernel)) (fun _ _ _ _ _ => pg_pairN (i := 1) (j := 2) (l := 3) rfl sc_Queues_stores.nd rfl rfl rfl (Or.inl rfl) (Or.inl rfl) (Or.inl rfl)) (fun _ _ _ _ _ => pts_nil) (fun _ _ _ _ _ => (pe_tup (pa_cons (pv 1) (pa_cons (pv 2) (pa_cons (pv 3) pa_nil))))))))), ?_⟩
    clear hr
    simp only [qu, List.cons_append, List.nil_append] at hO k
    obtain ⟨kl, hk, o1⟩ := hO.openD (a := s) (by walk_at "mem")
    replace hO := o1 _ (by walk_at "setat")
    clear o1
    have hll := ik_len hk
    rw [qD_len] at hll
    walk_at "go"
    refine hO.lockE (d := s) (u := .dK kl) (by walk_at "mem") trivial fun od H2 o2 => ?_
    replace hO := o2 _ (by walk_at "setat")
    clear o2
    walk_at "go"
    intro D hD
    refine lc_ownW (walk_items (kvs := kl)) (ss.map rD) hO hD (by rw [List.length_map]; exact hll) (by omega) (fun H L' P' s t h => h.raw (s _ (by walk_at "mem"))) (fun i v d H9 H' P' Qz hi hY hd sp hO kq => ?_) (fun H5 P5 sp5 hO => ?_)
    · obtain ⟨t0, kx, vx, rfl, hT, rfl, e1, e2⟩ := hY
      obtain ⟨kv, ekv, rfl⟩ := Option.map_eq_some_iff.mp e1
      obtain rfl : kv.2 = vx := by
        have e2' : kl[i]?.map Prod.snd = some vx := e2
        rw [ekv] at e2'
        exact Option.some.inj e2'
      obtain ⟨r, er, ek⟩ := ik_get hk (k := kv.1) (v := kv.2) ekv
      rw [qD, List.getElem?_map] at er
      obtain ⟨q, hq, rfl⟩ := Option.map_eq_some_iff.mp er
      rw [List.getElem?_map, hq] at hd
      obtain rfl := Option.some.inj hd
      rw [ek]
      replace hO := hO.newT (vs := [.int q.1, kv.2]) hT rfl
      obtain ⟨t, a', b', ev, hO⟩ := hO.opn2 (x := oD q.2.1) (y := oD q.2.2) (Dv.get (vs := kl.map Prod.snd) (ds := (ik (qD ss)).map Prod.snd) (Dv.of (List.mem_cons_of_mem _ (sp _ List.mem_cons_self))) (by rw [List.getElem?_map, ekv]; rfl) (i := i) (by simp [ik, qD, hq]))
      obtain rfl : a' = oV q.2.1 := Dv1.opt (Dv1.of (by walk_at "mem")) hO
      obtain rfl : b' = oV q.2.2 := Dv1.opt (Dv1.of (by walk_at "mem")) hO
      rw [ev] at hO ⊢
      have sq4 := (Ps.skip (q := Pf.sq t [oV q.2.1, oV q.2.2]) (Ps.skip (q := Pf.dp [oV q.2.1] [oD q.2.1]) (Ps.skip (q := Pf.dp [oV q.2.2] [oD q.2.2]) (Ps.skip (q := Pf.tup t0 [.int q.1, .ref t]) (Ps.refl (P := P'))))))
      dsimp only at hO ⊢
      rw [show kV (Sum.inl q.1) = V.int q.1 from rfl]
      generalize upd H9 t0 (.tup [.int q.1, .ref t]) = H3 at hO ⊢
      walk_at "go"
      exact kq _ _ _ (by walk_at "ps") hO (Dv1.tup List.mem_cons_self (Dv.cons (Dv1.int _) (Dv.cons (Dv1.oV _) (Dv.cons (Dv1.oV _) Dv.nil))))
    · walk_at "go"
      refine k D _ P5 ((Ps.skip Ps.refl).trans sp5) ?_
      walk_at "fin"
      · exact hk
      · exact Dv.of (sp5 _ List.mem_cons_self)
end
end K76

set_option Elab.async false
set_option linter.all false
set_option maxRecDepth 100000
set_option maxHeartbeats 8000000

namespace K76
open PySem PySem.Spec PyProof.Rows L2 Hx 
local macro_rules | `(tactic| walk_at "sm") => `(tactic| repeat' (first | assumption | apply Hx.Same.upd | exact L2.Same.refl _ | apply same_trans'))
local macro_rules | `(tactic| walk_at "hp") => `(tactic| repeat' (first | assumption | exact upd_same | apply old_upd | apply same_at))
local macro_rules | `(tactic| walk_at "rd") => `(tactic| repeat' (first | rfl | apply Exists.intro | apply And.intro | refine iteT ?_ | refine iteF ?_ | exact upd_same | exact SqL.of (by assumption) | exact SqL.of upd_same | exact SqT.of upd_same | exact SqT.of (by assumption) | ((with_reducible show (_ : Int) < _); omega) | ((with_reducible show (_ : Int) ≤ _); omega) | (show (_ : Prop); assumption) | exact Or.inl ⟨_, by assumption, rfl⟩ | exact Or.inl ⟨rfl, _, SqL.of (by assumption)⟩ | exact Or.inl ⟨rfl, _, SqL.of upd_same⟩ | apply old_upd | apply Hx.SqL.new | apply tyl_new | apply Pot.new | exact same_at (by assumption) (by assumption) | exact Or.inl (SqL.of (by assumption)) | exact Or.inl (by assumption) | exact Or.inl (SqL.of upd_same) | exact size_le (Nat.le_of_ble_eq_true rfl) | exact Nat.le_of_ble_eq_true rfl | exact True.intro | exact Or.inl rfl | exact Or.inr rfl | (show (_ : Prop); omega) | (show (_ : Prop); dsimp only; omega) | exact mulw64 (by omega) (by omega) | exact mulw64 (by (try dsimp only); omega) (by (try dsimp only); omega)))
set_option hygiene false in
local macro_rules | `(tactic| walk_at "fl") => `(tactic| simp only [pu_Queues_load_rooms, pi_Queues_load_rooms, pu_Queues_store_rooms, pi_Queues_store_rooms, pu_Queues_loads, pi_Queues_loads, pu_Queues_stores, pi_Queues_stores] at hO)
local macro_rules | `(tactic| walk_at "mem") => `(tactic| ((repeat (first | exact List.Mem.head _ | apply List.Mem.tail | fail)); done))
local macro_rules | `(tactic| walk_at "setat") => `(tactic| ((repeat (first | (with_reducible exact At.head) | (with_reducible apply At.tail) | (with_reducible apply At.app) | fail)); done))
set_option hygiene false in
local macro_rules | `(tactic| walk_at "dv") => `(tactic| ((repeat' (first | exact Dv.nil | exact Dv.of (by walk_at "mem") | exact Dv.ints _ | exact Dv1.of (by walk_at "mem") | exact Dv1.int _ | exact Dv1.non | exact Dv1.bl _ | exact Dv1.str _ | (with_reducible apply Dv.cons) | refine Dv1.tup (by walk_at "mem") ?_ | refine Dv1.lst (by walk_at "mem") ?_ | (with_reducible apply Dv.app) | fail)); done))
local macro_rules | `(tactic| walk_at "ft") => `(tactic| (first | (with_reducible exact Ft.refl) | ((with_reducible apply Ft.toL); focus walk_at "dv") | ((with_reducible apply Ft.toS); focus assumption) | (with_reducible apply Ft.lst) | (with_reducible apply Ft.Le) | (with_reducible apply Ft.dK) | (with_reducible apply Ft.De) | (with_reducible apply Ft.ins) | (with_reducible apply Ft.toL) | (with_reducible apply Ft.toS) | (with_reducible apply Ft.toD) | fail))
local macro_rules | `(tactic| walk_at "sbL") => `(tactic| repeat' (first | (with_reducible exact Sb.refl _) | exact Sb.nil | (with_reducible apply Sb.cons) | (with_reducible apply Sb.app) | (with_reducible exact Pk.one) | (with_reducible exact Pk.here) | (with_reducible exact Pk.all) | (with_reducible apply Pk.skip1) | (with_reducible apply Pk.skipB) | (with_reducible apply Sb.skip) | (with_reducible apply Sb.skipB) | ((with_reducible show Ft _ _ _ _); walk_at "ft") | ((with_reducible show (_ : List _) = _); (first | rfl | (simp [List.map_set, List.map_append]; done) | fail)) | fail))
local macro_rules | `(tactic| walk_at "sb") => `(tactic| ((walk_at "sbL"); done))
local macro_rules | `(tactic| walk_at "ps") => `(tactic| ((repeat' (first | (with_reducible exact Ps.refl) | exact Ps.nil | (with_reducible apply Ps.cons) | exact List.Mem.head _ | apply List.Mem.tail | (with_reducible apply Ps.skip) | fail)); done))
set_option hygiene false in
local macro_rules | `(tactic| walk_at "at") => `(tactic| first | assumption | exact Own.raw hO (by walk_at "mem") | exact Own.ptup hO (by walk_at "mem") | exact Own.plst hO (by walk_at "mem") | fail)
set_option hygiene false in
local macro_rules | `(tactic| walk_at "st") => `(tactic| (rw [upd_mkO hO]; generalize e : updX _ _ _ = H1; (first | ((apply Own.cset hO e); (focus walk_at "setat"); (try clear hO e); intro hO) | ((apply Own.cnewT hO e); (focus assumption); (try clear hO e); intro hO) | ((apply Own.cnew hO e); (focus assumption); (try clear hO e); intro hO) | fail)))
set_option hygiene false in
local macro_rules | `(tactic| walk_at "mk") => `(tactic| (intro p1 p2 f1 f2 f3; rw [upd_mkO hO]; generalize e : upd (updX _ _ _) _ _ = H1; apply Own.cmake hO f1 f2 f3 e; (try clear hO e); intro hO))
set_option hygiene false in
local macro_rules | `(tactic| walk_at "own") => `(tactic| (first | ((apply Own.sub hO); (focus walk_at "sb"); (focus walk_at "ps")) | ((apply Own.sub hF); (focus walk_at "sb"); (focus walk_at "ps")) | fail))
set_option hygiene false in
local macro_rules | `(tactic| walk_at "fin") => `(tactic| (refine Own.sub hO ?_ (by walk_at "ps"); walk_at "sbL"))
set_option hygiene false in
local macro_rules | `(tactic| walk_at "g1") => `(tactic| (first
 | ((with_reducible show (_ : Option HO) = _); walk_at "at")
 | ((with_reducible show (_ : Int) < _); omega) | ((with_reducible show (_ : Int) ≤ _); omega)
 | ((with_reducible show (_ : Nat) < _); (first | assumption | exact Nat.le_of_ble_eq_true rfl | exact size_lt (Nat.le_of_ble_eq_true rfl) | omega | (simp; done) | (simp; omega) | fail))
 | ((with_reducible show (_ : Nat) ≤ _); (first | assumption | exact Nat.le_of_ble_eq_true rfl | exact size_le (Nat.le_of_ble_eq_true rfl) | omega | (simp; done) | (simp; omega) | fail))
 | ((with_reducible show Own _ _ _ _); (first | walk_at "own" | (walk_at "st"; walk_at "own") | fail))
 | ((with_reducible show SqL _ _ _ _); (first | assumption | exact SqL.of (by walk_at "at") | fail))
 | ((with_reducible show SqT _ _ _ _); (first | assumption | exact hO.psq (by walk_at "mem") | exact SqT.of (by walk_at "at") | fail))
  | ((with_reducible show Cls _ _); exact Txt.cl_Queues T) | ((with_reducible show NoAttr _ _ _); exact Txt.n_Queues_load_rooms T) | (with_reducible exact gt_Queues_load_rooms) | ((with_reducible show NoAttr _ _ _); exact Txt.n_Queues_store_rooms T) | (with_reducible exact gt_Queues_store_rooms) | ((with_reducible show NoAttr _ _ _); exact Txt.n_Queues_loads T) | (with_reducible exact gt_Queues_loads) | ((with_reducible show NoAttr _ _ _); exact Txt.n_Queues_stores T) | (with_reducible exact gt_Queues_stores)  | ((with_reducible show V.ref _ = V.ref _); (first | rfl | fail))
 | ((with_reducible show DGet _ _ _ _); (first | exact DGet.ki (by walk_at "at") (by assumption) | exact DGet.kiF (by walk_at "at") (by assumption) | fail))
 | ((with_reducible show DPut _ _ _ _ _); exact DPut.ki (by walk_at "at") (by assumption))
 | ((with_reducible show Rd _ _ _); (first | exact Or.inl (by walk_at "at") | exact Or.inr ⟨_, by walk_at "at"⟩ | fail))
 | ((with_reducible show (∃ _ : List (Key × V), _) ∨ _); refine Or.inl ⟨_, by walk_at "at", ?_⟩)
 | ((with_reducible show Dv _ _ _ _); focus walk_at "dv") | ((with_reducible show Dv1 _ _ _ _); focus walk_at "dv")
 | ((with_reducible show IsD _ _); exact Or.inl ⟨_, Or.inl (by walk_at "at")⟩)
 | ((with_reducible show V.int _ = kV _); exact kV_int)
 | ((with_reducible show Option.isSome _ = true); (first | exact isSome_ofV (by assumption) | assumption | fail))
 | ((with_reducible show SqL _ _ _ _ ∨ SqT _ _ _ _); (first | exact Or.inl (by assumption) | exact Or.inr (by assumption) | exact Or.inl (SqL.of (by walk_at "at")) | exact Or.inr (SqT.of (by walk_at "at")) | fail))
 | ((with_reducible show Dp _ _ _ _); (first | assumption | exact hO.dpL (by walk_at "mem") | exact .lst (SqL.of (by walk_at "at")) (hO.all (by walk_at "dv")) | exact hO.one (by walk_at "dv") | fail))
 | ((with_reducible show TruV _ _ _ _); (first | exact Or.inl ⟨_, SqL.of (by walk_at "at"), rfl⟩ | exact Or.inr (Or.inr ⟨_, by walk_at "at", rfl⟩) | exact Or.inr (Or.inl ⟨_, SqT.of (by walk_at "at"), rfl⟩) | fail))
 | ((with_reducible show RgOk _ _); exact RgOk.of_le (by omega) (by omega) (by omega) (by omega))
 | rfl | (with_reducible assumption) | apply And.intro | apply Exists.intro | refine iteT ?_ | refine iteF ?_
 | (walk_at "st"; (try walk_at "fl"))
 | ((with_reducible show ∀ _ : Addr, _ = none → _); (fail_if_success (with_reducible show ∀ _ : Addr, _ = none → ∃ _ : Nat → Nat → Hp → Prop, _)); intro p fp; walk_at "st")
 | (refine Or.inl ⟨SqL.of (by walk_at "at"), ?_⟩) | (refine Or.inr ⟨SqT.of (by walk_at "at"), ?_⟩) | exact Or.inl ⟨_, by walk_at "at", rfl⟩ | exact Or.inl ⟨rfl, _, SqL.of (by walk_at "at")⟩ | exact tyl_of (by walk_at "at") | exact Or.inl (SqL.of (by walk_at "at")) | exact Or.inr (SqT.of (by walk_at "at")) | exact Or.inl (by walk_at "at") | exact size_le (Nat.le_of_ble_eq_true rfl) | exact Nat.le_of_ble_eq_true rfl | exact True.intro | exact Or.inl rfl | exact Or.inr rfl | (show (_ : Prop); assumption) | (show (_ : Prop); omega) | (show (_ : Prop); dsimp only; omega) | exact mulw64 (by omega) (by omega) | exact mulw64 (by (try dsimp only); omega) (by (try dsimp only); omega) | fail))
local macro_rules | `(tactic| walk_at "go") => `(tactic| repeat walk_at "g1")

section
variable {P : Program} {w : World} {K : PySem.W.Frag} {mg : Str → Option Value} {base : Heap}
def sp_copy (K : PySem.W.Frag) (C : Addr) : Sp := fun vs H Q _ => ∃ (x dx l s : Addr) (a b : Int) (ls ss : List QR) (R : List (Addr × Ob)) (P : List Pf), vs = [.ref x] ∧ Own K H (qu C x dx l s a b ls ss ++ R) P ∧ (1 ≤ a ∧ a ≤ 8) ∧ (1 ≤ b ∧ b ≤ 8) ∧ ls.length ≤ 100 ∧ ss.length ≤ 100 ∧
  ∀ (y dy l' s' : Addr) (H' : Hp) (P' : List Pf), Ps P P' → Own K H' (qu C y dy l' s' a b ls ss ++ (qu C x dx l s a b ls ss ++ R)) P' → Q (.ref y) H'
theorem ok_Queues_copy (T : Txt K mg) : FnOk P w K mg base CX0 6 T.f_Queues_copy T.fd_Queues_copy ["self"] (sp_copy K T.C_Queues) := by
  have G_Queues_init := ok_Queues_init (P := P) (w := w) (base := base) T
  refine T.F_Queues_copy.ok sc_Queues_copy (fun vs H Q E h => ?_) (fun cdv A outer s H vs Q E hr h => ?_)
  · obtain ⟨x, dx, l, s, a, b, ls, ss, R, P, rfl, hO, ha, hb, hl1, hs1, k⟩ := h; rfl
  · obtain ⟨x, dx, l, s, a, b, ls, ss, R, P, rfl, hO, ha, hb, hl1, hs1, k⟩ := h
    refine ⟨_, (pss_cons (ps_set (i := 1) sc_Queues_copy.nd rfl (Or.inl rfl) (pe_make T.mk_Queues G_Queues_init (hr.mono (by decide)) rfl T.g_Queues T.b_Queues_init .nil pass0 (pa_cons (pe_fld (pv 0) rfl) (pa_cons (pe_fld (pv 0) rfl) pa_nil))))
        (pss_cons (ps_fld (pv 1) (pe_callTy call_dictD (by rfl) T.m_dict (by decide +kernel) (pa_cons (pe_fld (pv 0) rfl) pa_nil)) rfl)
        (pss_cons (ps_fld (pv 1) (pe_callTy call_dictD (by rfl) T.m_dict (by decide +kernel) (pa_cons (pe_fld (pv 0) rfl) pa_nil)) rfl)
        (pss_one (ps_ret (pv 1)))))), ?_⟩
    clear G_Queues_init
    clear hr
    simp only [qu, List.cons_append, List.nil_append] at hO k
    obtain ⟨kl, hk, o1⟩ := hO.openD (a := l) (by walk_at "mem")
    replace hO := o1 _ (by walk_at "setat")
    obtain ⟨ks, hk2, o2⟩ := hO.openD (a := s) (by walk_at "mem")
    replace hO := o2 _ (by walk_at "setat")
    clear o1 o2
    walk_at "go"
    walk_at "mk"
    walk_at "go"
    intro l2 s2 H2 hO
    simp only [qu, List.cons_append, List.nil_append] at hO
    walk_at "go"
    refine k p1 p2 ?ll ?ss H1 _ ?ps (Own.sub hO ?sb Ps.refl)
    case' ps => exact Ps.skip (Ps.skip Ps.refl)
    case' sb => walk_at "sbL"
    all_goals first | exact hk | exact hk2 | exact Dv.of (by walk_at "mem")
theorem sh_opt (o : Option Int) : SeqAt.shaped (oD o) = true := by cases o <;> rfl
theorem sh_pair (a b : Option Int) : SeqAt.shaped (.tuple [oD a, oD b]) = true := by cases a <;> cases b <;> rfl
theorem sh_ik (rs : List QR) : ∀ p ∈ ik (qD rs), SeqAt.shaped p.2 = true := fun p hp => by
  rw [ik_qD] at hp
  obtain ⟨r, _, rfl⟩ := List.mem_map.mp hp
  exact sh_pair _ _
def eqQ (a b : Int) (ls ss : List QR) (a' b' : Int) (ls' ss' : List QR) : Bool := decide (a = a') && (decide (b = b') && (eqvDD (ik (qD ls)) (ik (qD ls')) && eqvDD (ik (qD ss)) (ik (qD ss'))))
def sp_eqQ (K : PySem.W.Frag) (C : Addr) : Sp := fun vs H Q _ => ∃ (x dx l s : Addr) (a b : Int) (ls ss : List QR) (y : Addr) (R : List (Addr × Ob)) (P : List Pf), vs = [.ref x, .ref y] ∧
  ((∃ (dy l' s' : Addr) (a' b' : Int) (ls' ss' : List QR), Own K H (qu C x dx l s a b ls ss ++ (qu C y dy l' s' a' b' ls' ss' ++ R)) P ∧ Q (.bl (eqQ a b ls ss a' b' ls' ss')) H)
  ∨ (∃ xs : List V, Own K H (qu C x dx l s a b ls ss ++ R) P ∧ H y = some (.lst xs) ∧ Q (.bl false) H))
theorem ok_Queues_eq (T : Txt K mg) : FnOk P w K mg base CX0 1 T.f_Queues_eq T.fd_Queues_eq ["self", "other"] (sp_eqQ K T.C_Queues) := by
  refine T.F_Queues_eq.ok sc_Queues_eq (fun vs H Q E h => ?_) (fun cdv A outer s H vs Q E hr h => ?_)
  · obtain ⟨x, dx, l, s, a, b, ls, ss, y, R, P, rfl, k⟩ := h; rfl
  · obtain ⟨x, dx, l, s, a, b, ls, ss, y, R, P, rfl, k⟩ := h
    refine ⟨_, (pss_one (ps_ret (pe_and (pe_callB call_isi (by rfl) T.m_isinstance (by decide +kernel) (pa_cons (pv 1) (pa_cons (pe_glob (v := .ref T.C_Queues) rfl T.g_Queues rfl) pa_nil))) (pe_and (pe_cmpR op_eq (pe_fld (pv 0) rfl) (pe_fld (pv 1) rfl) (nomark _)) (pe_and (pe_cmpR op_eq (pe_fld (pv 0) rfl) (pe_fld (pv 1) rfl) (nomark _)) (pe_and (pe_cmpR (op_eqDD (hu65 hr)) (pe_fld (pv 0) rfl) (pe_fld (pv 1) rfl) (nomark _)) (pe_one (pe_cmpR (op_eqDD (hu65 hr)) (pe_fld (pv 0) rfl) (pe_fld (pv 1) rfl) (nomark _))))))))), ?_⟩
    clear hr
    rcases k with ⟨dy, l', s', a', b', ls', ss', hO, k⟩ | ⟨xs, hO, hy, k⟩
    · simp only [qu, List.cons_append, List.nil_append] at hO
      have cv : ClsV (.ref T.C_Queues) (.ref T.C_Queues) := .own _
      have ty : TyX K H (.ref y) (.ref T.C_Queues) := .base (.ins (hO.raw (o := .ins T.C_Queues dy (F_Queues (.int a') (.int b') (.ref l') (.ref s'))) (by walk_at "mem")) T.cl_Queues T.ic_Queues T.in_Queues T.it_Queues T.im_Queues)
      have kso : PySem.W.kitOne K (.ref T.C_Queues) (.ref T.C_Queues) = some true := kit_self'
      obtain ⟨kl, hk, o1⟩ := hO.openD (a := l) (by walk_at "mem")
      replace hO := o1 _ (by walk_at "setat")
      have dl := hO.pdp List.mem_cons_self
      obtain ⟨ks, hk2, o2⟩ := hO.openD (a := s) (by walk_at "mem")
      replace hO := o2 _ (by walk_at "setat")
      have ds := hO.pdp List.mem_cons_self
      obtain ⟨kl', hk', o3⟩ := hO.openD (a := l') (by walk_at "mem")
      replace hO := o3 _ (by walk_at "setat")
      have dl' := hO.pdp List.mem_cons_self
      obtain ⟨ks', hk2', o4⟩ := hO.openD (a := s') (by walk_at "mem")
      replace hO := o4 _ (by walk_at "setat")
      have ds' := hO.pdp List.mem_cons_self
      clear o1 o2 o3 o4
      have sh1 := sh_ik ls
      have sh2 := sh_ik ls'
      have sh3 := sh_ik ss
      have sh4 := sh_ik ss'
      walk_at "go"
      refine iteD (fun h1 => ?_) (fun h1 => ?_)
      · walk_at "go"
        refine iteD (fun h2 => ?_) (fun h2 => ?_)
        · walk_at "go"
          cases he : eqvDD (ik (qD ls)) (ik (qD ls')) with
          | false => exact iteF (qbl k (by rw [eqQ, he, Bool.false_and, Bool.and_false, Bool.and_false]))
          | true =>
            refine iteT ?_
            walk_at "go"
            exact qbl k (by rw [eqQ, decide_eq_true (V.int.inj h1), decide_eq_true (V.int.inj h2), he, Bool.true_and, Bool.true_and, Bool.true_and])
        · exact qbl k (by rw [eqQ, decide_eq_false (fun z => h2 (congrArg V.int z)), Bool.false_and, Bool.and_false])
      · exact qbl k (by rw [eqQ, decide_eq_false (fun z => h1 (congrArg V.int z)), Bool.false_and])
    · simp only [qu, List.cons_append, List.nil_append] at hO
      have cv : ClsV (.ref T.C_Queues) (.ref T.C_Queues) := .own _
      have ty : TyX K H (.ref y) (.type "list") := .base (.lst hy)
      have ks : PySem.W.kitOne K (.type "list") (.ref T.C_Queues) = some false := kit_not T.ik_Queues T.ty_Queues T.sl_Queues
      walk_at "go"
end
end K76

set_option Elab.async false
set_option linter.all false
set_option maxRecDepth 100000
set_option maxHeartbeats 8000000

namespace K76
open PySem PySem.Spec PyProof.Rows L2 Hx 
local macro_rules | `(tactic| walk_at "sm") => `(tactic| repeat' (first | assumption | apply Hx.Same.upd | exact L2.Same.refl _ | apply same_trans'))
local macro_rules | `(tactic| walk_at "hp") => `(tactic| repeat' (first | assumption | exact upd_same | apply old_upd | apply same_at))
local macro_rules | `(tactic| walk_at "rd") => `(tactic| repeat' (first | rfl | apply Exists.intro | apply And.intro | refine iteT ?_ | refine iteF ?_ | exact upd_same | exact SqL.of (by assumption) | exact SqL.of upd_same | exact SqT.of upd_same | exact SqT.of (by assumption) | ((with_reducible show (_ : Int) < _); omega) | ((with_reducible show (_ : Int) ≤ _); omega) | (show (_ : Prop); assumption) | exact Or.inl ⟨_, by assumption, rfl⟩ | exact Or.inl ⟨rfl, _, SqL.of (by assumption)⟩ | exact Or.inl ⟨rfl, _, SqL.of upd_same⟩ | apply old_upd | apply Hx.SqL.new | apply tyl_new | apply Pot.new | exact same_at (by assumption) (by assumption) | exact Or.inl (SqL.of (by assumption)) | exact Or.inl (by assumption) | exact Or.inl (SqL.of upd_same) | exact size_le (Nat.le_of_ble_eq_true rfl) | exact Nat.le_of_ble_eq_true rfl | exact True.intro | exact Or.inl rfl | exact Or.inr rfl | (show (_ : Prop); omega) | (show (_ : Prop); dsimp only; omega) | exact mulw64 (by omega) (by omega) | exact mulw64 (by (try dsimp only); omega) (by (try dsimp only); omega)))
set_option hygiene false in
local macro_rules | `(tactic| walk_at "fl") => `(tactic| simp only [pu_Queues_load_rooms, pi_Queues_load_rooms, pu_Queues_store_rooms, pi_Queues_store_rooms, pu_Queues_loads, pi_Queues_loads, pu_Queues_stores, pi_Queues_stores] at hO)
local macro_rules | `(tactic| walk_at "mem") => `(tactic| ((repeat (first | exact List.Mem.head _ | apply List.Mem.tail | fail)); done))
local macro_rules | `(tactic| walk_at "setat") => `(tactic| ((repeat (first | (with_reducible exact At.head) | (with_reducible apply At.tail) | (with_reducible apply At.app) | fail)); done))
set_option hygiene false in
local macro_rules | `(tactic| walk_at "dv") => `(tactic| ((repeat' (first | exact Dv.nil | exact Dv.of (by walk_at "mem") | exact Dv.ints _ | exact Dv1.of (by walk_at "mem") | exact Dv1.int _ | exact Dv1.non | exact Dv1.bl _ | exact Dv1.str _ | (with_reducible apply Dv.cons) | refine Dv1.tup (by walk_at "mem") ?_ | refine Dv1.lst (by walk_at "mem") ?_ | (with_reducible apply Dv.app) | fail)); done))
local macro_rules | `(tactic| walk_at "ft") => `(tactic| (first | (with_reducible exact Ft.refl) | ((with_reducible apply Ft.toL); focus walk_at "dv") | ((with_reducible apply Ft.toS); focus assumption) | (with_reducible apply Ft.lst) | (with_reducible apply Ft.Le) | (with_reducible apply Ft.dK) | (with_reducible apply Ft.De) | (with_reducible apply Ft.ins) | (with_reducible apply Ft.toL) | (with_reducible apply Ft.toS) | (with_reducible apply Ft.toD) | fail))
local macro_rules | `(tactic| walk_at "sbL") => `(tactic| repeat' (first | (with_reducible exact Sb.refl _) | exact Sb.nil | (with_reducible apply Sb.cons) | (with_reducible apply Sb.app) | (with_reducible exact Pk.one) | (with_reducible exact Pk.here) | (with_reducible exact Pk.all) | (with_reducible apply Pk.skip1) | (with_reducible apply Pk.skipB) | (with_reducible apply Sb.skip) | (with_reducible apply Sb.skipB) | ((with_reducible show Ft _ _ _ _); walk_at "ft") | ((with_reducible show (_ : List _) = _); (first | rfl | (simp [List.map_set, List.map_append]; done) | fail)) | fail))
local macro_rules | `(tactic| walk_at "sb") => `(tactic| ((walk_at "sbL"); done))
local macro_rules | `(tactic| walk_at "ps") => `(tactic| ((repeat' (first | (with_reducible exact Ps.refl) | exact Ps.nil | (with_reducible apply Ps.cons) | exact List.Mem.head _ | apply List.Mem.tail | (with_reducible apply Ps.skip) | fail)); done))
set_option hygiene false in
local macro_rules | `(tactic| walk_at "at") => `(tactic| first | assumption | exact Own.raw hO (by walk_at "mem") | exact Own.ptup hO (by walk_at "mem") | exact Own.plst hO (by walk_at "mem") | fail)
set_option hygiene false in
local macro_rules | `(tactic| walk_at "st") => `(tactic| (rw [upd_mkO hO]; generalize e : updX _ _ _ = H1; (first | ((apply Own.cset hO e); (focus walk_at "setat"); (try clear hO e); intro hO) | ((apply Own.cnewT hO e); (focus assumption); (try clear hO e); intro hO) | ((apply Own.cnew hO e); (focus assumption); (try clear hO e); intro hO) | fail)))
set_option hygiene false in
local macro_rules | `(tactic| walk_at "mk") => `(tactic| (intro p1 p2 f1 f2 f3; rw [upd_mkO hO]; generalize e : upd (updX _ _ _) _ _ = H1; apply Own.cmake hO f1 f2 f3 e; (try clear hO e); intro hO))
set_option hygiene false in
local macro_rules | `(tactic| walk_at "own") => `(tactic| (first | ((apply Own.sub hO); (focus walk_at "sb"); (focus walk_at "ps")) | ((apply Own.sub hF); (focus walk_at "sb"); (focus walk_at "ps")) | fail))
set_option hygiene false in
local macro_rules | `(tactic| walk_at "fin") => `(tactic| (refine Own.sub hO ?_ (by walk_at "ps"); walk_at "sbL"))
set_option hygiene false in
local macro_rules | `(tactic| walk_at "g1") => `(tactic| (first
 | ((with_reducible show (_ : Option HO) = _); walk_at "at")
 | ((with_reducible show (_ : Int) < _); omega) | ((with_reducible show (_ : Int) ≤ _); omega)
 | ((with_reducible show (_ : Nat) < _); (first | assumption | exact Nat.le_of_ble_eq_true rfl | exact size_lt (Nat.le_of_ble_eq_true rfl) | omega | (simp; done) | (simp; omega) | fail))
 | ((with_reducible show (_ : Nat) ≤ _); (first | assumption | exact Nat.le_of_ble_eq_true rfl | exact size_le (Nat.le_of_ble_eq_true rfl) | omega | (simp; done) | (simp; omega) | fail))
 | ((with_reducible show Own _ _ _ _); (first | walk_at "own" | (walk_at "st"; walk_at "own") | fail))
 | ((with_reducible show SqL _ _ _ _); (first | assumption | exact SqL.of (by walk_at "at") | fail))
 | ((with_reducible show SqT _ _ _ _); (first | assumption | exact hO.psq (by walk_at "mem") | exact SqT.of (by walk_at "at") | fail))
  | ((with_reducible show Cls _ _); exact Txt.cl_Queues T) | ((with_reducible show NoAttr _ _ _); exact Txt.n_Queues_load_rooms T) | (with_reducible exact gt_Queues_load_rooms) | ((with_reducible show NoAttr _ _ _); exact Txt.n_Queues_store_rooms T) | (with_reducible exact gt_Queues_store_rooms) | ((with_reducible show NoAttr _ _ _); exact Txt.n_Queues_loads T) | (with_reducible exact gt_Queues_loads) | ((with_reducible show NoAttr _ _ _); exact Txt.n_Queues_stores T) | (with_reducible exact gt_Queues_stores)  | ((with_reducible show V.ref _ = V.ref _); (first | rfl | fail))
 | ((with_reducible show DGet _ _ _ _); (first | exact DGet.ki (by walk_at "at") (by assumption) | exact DGet.kiF (by walk_at "at") (by assumption) | fail))
 | ((with_reducible show DPut _ _ _ _ _); exact DPut.ki (by walk_at "at") (by assumption))
 | ((with_reducible show Rd _ _ _); (first | exact Or.inl (by walk_at "at") | exact Or.inr ⟨_, by walk_at "at"⟩ | fail))
 | ((with_reducible show (∃ _ : List (Key × V), _) ∨ _); refine Or.inl ⟨_, by walk_at "at", ?_⟩)
 | ((with_reducible show Dv _ _ _ _); focus walk_at "dv") | ((with_reducible show Dv1 _ _ _ _); focus walk_at "dv")
 | ((with_reducible show IsD _ _); exact Or.inl ⟨_, Or.inl (by walk_at "at")⟩)
 | ((with_reducible show V.int _ = kV _); exact kV_int)
 | ((with_reducible show Option.isSome _ = true); (first | exact isSome_ofV (by assumption) | assumption | fail))
 | ((with_reducible show SqL _ _ _ _ ∨ SqT _ _ _ _); (first | exact Or.inl (by assumption) | exact Or.inr (by assumption) | exact Or.inl (SqL.of (by walk_at "at")) | exact Or.inr (SqT.of (by walk_at "at")) | fail))
 | ((with_reducible show Dp _ _ _ _); (first | assumption | exact hO.dpL (by walk_at "mem") | exact .lst (SqL.of (by walk_at "at")) (hO.all (by walk_at "dv")) | exact hO.one (by walk_at "dv") | fail))
 | ((with_reducible show TruV _ _ _ _); (first | exact Or.inl ⟨_, SqL.of (by walk_at "at"), rfl⟩ | exact Or.inr (Or.inr ⟨_, by walk_at "at", rfl⟩) | exact Or.inr (Or.inl ⟨_, SqT.of (by walk_at "at"), rfl⟩) | fail))
 | ((with_reducible show RgOk _ _); exact RgOk.of_le (by omega) (by omega) (by omega) (by omega))
 | rfl | (with_reducible assumption) | apply And.intro | apply Exists.intro | refine iteT ?_ | refine iteF ?_
 | (walk_at "st"; (try walk_at "fl"))
 | ((with_reducible show ∀ _ : Addr, _ = none → _); (fail_if_success (with_reducible show ∀ _ : Addr, _ = none → ∃ _ : Nat → Nat → Hp → Prop, _)); intro p fp; walk_at "st")
 | (refine Or.inl ⟨SqL.of (by walk_at "at"), ?_⟩) | (refine Or.inr ⟨SqT.of (by walk_at "at"), ?_⟩) | exact Or.inl ⟨_, by walk_at "at", rfl⟩ | exact Or.inl ⟨rfl, _, SqL.of (by walk_at "at")⟩ | exact tyl_of (by walk_at "at") | exact Or.inl (SqL.of (by walk_at "at")) | exact Or.inr (SqT.of (by walk_at "at")) | exact Or.inl (by walk_at "at") | exact size_le (Nat.le_of_ble_eq_true rfl) | exact Nat.le_of_ble_eq_true rfl | exact True.intro | exact Or.inl rfl | exact Or.inr rfl | (show (_ : Prop); assumption) | (show (_ : Prop); omega) | (show (_ : Prop); dsimp only; omega) | exact mulw64 (by omega) (by omega) | exact mulw64 (by (try dsimp only); omega) (by (try dsimp only); omega) | fail))
local macro_rules | `(tactic| walk_at "go") => `(tactic| repeat walk_at "g1")

section
variable {P : Program} {w : World} {K : PySem.W.Frag} {mg : Str → Option Value} {base : Heap}
def sp_Lpot (K : PySem.W.Frag) : Sp := fun vs H Q _ => ∃ (a : Addr) (ns : List Int), vs = [.ref a, .int 0] ∧ SqL K H a (ns.map V.int) ∧ ns.length ≤ 63 ∧ ∀ p (H' : Hp), Own K H' (pt p ++ []) [] → Q (.ref p) H'
theorem ok_Lpot (T : Txt K mg) : FnOk P w K mg base CX0 1 T.f_Lpot T.fd_Lpot ["_law_script", "_law_k"] (sp_Lpot K) := by
  refine T.F_Lpot.ok sc_Lpot (fun vs H Q E h => ?_) (fun cdv A outer s H vs Q E hr h => ?_)
  · obtain ⟨a, ns, rfl, hS, hl, k⟩ := h; rfl
  · obtain ⟨a, ns, rfl, hS, hl, k⟩ := h
    refine ⟨_, (pss_cons (ps_set (i := 2) sc_Lpot.nd rfl (Or.inl rfl) (pe_op op_add (pe_op op_mulW pe_int (pv 1)) pe_int))
        (pss_cons (ps_if (pt_cmpR op_lt (pv 1) (pe_callB call_len_list (by rfl) T.m_len (by decide +kernel) (pa_cons (pv 0) pa_nil)) (nomark _))
          (pss_one (ps_set (i := 2) sc_Lpot.nd rfl (Or.inl rfl) (pe_callB call_abs (by rfl) T.m_abs (by decide +kernel) (pa_cons (pe_ix ix_list (pv 0) (pv 1) (fun _ _ => rfl)) pa_nil))))
          pss_nil)
        (pss_one (ps_ret (pe_lst (pa_cons (pe_callB (call_max2 rfl) (by rfl) T.m_max (by decide +kernel) (pa_cons pe_int (pa_cons (pe_op op_sub (pv 2) (pe_op op_pow pe_int pe_int)) pa_nil))) (pa_cons (pe_op op_add (pe_op op_mod (pe_callTy call_int1i (by rfl) T.m_int (by decide +kernel) (pa_cons (pe_op op_add (pe_op op_mulW (pe_op op_mod (pe_callTy call_int1i (by rfl) T.m_int (by decide +kernel) (pa_cons (pv 2) pa_nil)) pe_int) (pe_op op_add (pe_op op_mulW pe_int (pv 1)) pe_int)) pe_int) pa_nil)) pe_int) pe_int) pa_nil))))))), ?_⟩
    clear hr
    simp only [pt, List.cons_append, List.nil_append] at k
    have hO : Own K H [] [] := Own.start
    walk_at "go"
    refine iteD (fun h => ?_) (fun h => ?_)
    · obtain ⟨v, hv, hm⟩ := pick_at (xs := ns.map V.int) (d := 0) (by omega) (by simpa using h)
      obtain ⟨z, _, rfl⟩ := List.mem_map.mp hm
      walk_at "go"
      apply k
      walk_at "fin"
      exact ⟨_, _, rfl, by split <;> omega, by omega, by omega⟩
    · walk_at "go"
      apply k
      walk_at "fin"
      exact ⟨_, _, rfl, by split <;> omega, by omega, by omega⟩

theorem ok_Ldraw (T : Txt K mg) : FnOk P w K mg base CX0 1 T.f_Ldraw T.fd_Ldraw ["_law_pot_here", "_law_size"] (spDrw K) := by
  refine T.F_Ldraw.ok sc_Ldraw (fun vs H Q E h => ?_) (fun cdv A outer s H vs Q E hr h => ?_)
  · obtain ⟨a, n, R, P, rfl, hO, hn, hn2, k⟩ := h; rfl
  · obtain ⟨a, n, R, P, rfl, hO, hn, hn2, k⟩ := h
    refine ⟨_, (pss_cons (ps_if (pt_cmpR op_gt (pe_ix ix_list (pv 0) pe_int (fun _ _ => rfl)) pe_int (nomark _))
          (pss_cons (ps_asg (pe_callB call_divmod (by rfl) T.m_divmod (by decide +kernel) (pa_cons (pe_ix ix_list (pv 0) pe_int (fun _ _ => rfl)) (pa_cons (pv 1) pa_nil))) (pg_tup rfl (pgs_cons (pg_sub (pv 0) pe_int set_list) (pgs_cons (pg_name (i := 2) sc_Ldraw.nd rfl (Or.inl rfl)) pgs_nil))))
          (pss_one (ps_ret (pv 2))))
          pss_nil)
        (pss_cons (ps_asg (pe_op op_mod (pe_callTy call_int1i (by rfl) T.m_int (by decide +kernel) (pa_cons (pe_op op_add (pe_op op_mulW (pe_ix ix_list (pv 0) pe_int (fun _ _ => rfl)) pe_int) pe_int) pa_nil)) pe_int) (pg_sub (pv 0) pe_int set_list))
        (pss_one (ps_ret (pe_op op_mod (pe_callTy call_int1i (by rfl) T.m_int (by decide +kernel) (pa_cons (pe_op op_fdiv (pe_op op_mod (pe_callTy call_int1i (by rfl) T.m_int (by decide +kernel) (pa_cons (pe_op op_mulW (pe_ix ix_list (pv 0) pe_int (fun _ _ => rfl)) (pe_ix ix_list (pv 0) pe_int (fun _ _ => rfl))) pa_nil)) pe_int) pe_int) pa_nil)) (pv 1)))))), ?_⟩
    clear hr
    simp only [pt, List.cons_append, List.nil_append] at hO k
    obtain ⟨o, ⟨x, y, rfl, hx, hy, hy2⟩, o1⟩ := hO.openS (a := a) (φ := PotO) (by walk_at "mem")
    replace hO := o1 _ (by walk_at "setat")
    clear o1
    walk_at "go"
    refine iteD (fun h => ?_) (fun h => ?_)
    · walk_at "go"
      refine k (x % n) _ (Int.emod_nonneg _ (by omega)) (Int.emod_lt_of_pos _ hn) ?_
      walk_at "fin"
      exact ⟨x / n, y, rfl, Int.ediv_nonneg hx (by omega), hy, hy2⟩
    · walk_at "go"
      refine k _ _ (Int.emod_nonneg _ (by omega)) (Int.emod_lt_of_pos _ hn) ?_
      walk_at "fin"
      exact ⟨x, _, rfl, hx, by omega, by omega⟩
def sp_Lpick (K : PySem.W.Frag) : Sp := fun vs H Q _ => ∃ (a l : Addr) (xs : List V) (R : List (Addr × Ob)) (P : List Pf), vs = [.ref a, .ref l] ∧ Own K H (pt a ++ ((l, .raw (.lst xs)) :: R)) P ∧ 0 < xs.length ∧ xs.length ≤ 1000 ∧
  ∀ (i : Nat) (v : V) (H' : Hp), xs[i]? = some v → Own K H' (pt a ++ ((l, .raw (.lst xs)) :: R)) P → Q v H'
theorem ok_Lpick (T : Txt K mg) : FnOk P w K mg base CX0 2 T.f_Lpick T.fd_Lpick ["_law_pot_here", "_law_some"] (sp_Lpick K) := by
  have G_Ldraw := ok_Ldraw (P := P) (w := w) (base := base) T
  refine T.F_Lpick.ok sc_Lpick (fun vs H Q E h => ?_) (fun cdv A outer s H vs Q E hr h => ?_)
  · obtain ⟨a, l, xs, R, P, rfl, hO, h0, h1, k⟩ := h; rfl
  · obtain ⟨a, l, xs, R, P, rfl, hO, h0, h1, k⟩ := h
    refine ⟨_, (pss_one (ps_ret (pe_ix ix_list (pv 1) (pe_call G_Ldraw (hr.mono (by decide)) rfl T.g_Ldraw T.F_Ldraw.kp T.b_Ldraw .nil pass0 (pa_cons (pv 0) (pa_cons (pe_callB call_len_list (by rfl) T.m_len (by decide +kernel) (pa_cons (pv 1) pa_nil)) pa_nil))) (fun _ _ => rfl)))), ?_⟩
    clear G_Ldraw
    clear hr
    simp only [pt, List.cons_append, List.nil_append] at hO k
    walk_at "go"
    intro d H1 d0 d1 hO
    obtain ⟨d, rfl⟩ := Int.eq_ofNat_of_zero_le d0
    have dl : d < xs.length := by omega
    have ad : atI xs (d : Int) = some xs[d] := atI_nat (List.getElem?_eq_getElem dl)
    simp only [pt, List.cons_append, List.nil_append] at hO
    walk_at "go"
    exact k d _ _ (List.getElem?_eq_getElem dl) hO
end
end K76

set_option Elab.async false
set_option linter.all false
set_option maxRecDepth 100000
set_option maxHeartbeats 8000000

namespace K76
open PySem PySem.Spec PyProof.Rows L2 Hx 
local macro_rules | `(tactic| walk_at "sm") => `(tactic| repeat' (first | assumption | apply Hx.Same.upd | exact L2.Same.refl _ | apply same_trans'))
local macro_rules | `(tactic| walk_at "hp") => `(tactic| repeat' (first | assumption | exact upd_same | apply old_upd | apply same_at))
local macro_rules | `(tactic| walk_at "rd") => `(tactic| repeat' (first | rfl | apply Exists.intro | apply And.intro | refine iteT ?_ | refine iteF ?_ | exact upd_same | exact SqL.of (by assumption) | exact SqL.of upd_same | exact SqT.of upd_same | exact SqT.of (by assumption) | ((with_reducible show (_ : Int) < _); omega) | ((with_reducible show (_ : Int) ≤ _); omega) | (show (_ : Prop); assumption) | exact Or.inl ⟨_, by assumption, rfl⟩ | exact Or.inl ⟨rfl, _, SqL.of (by assumption)⟩ | exact Or.inl ⟨rfl, _, SqL.of upd_same⟩ | apply old_upd | apply Hx.SqL.new | apply tyl_new | apply Pot.new | exact same_at (by assumption) (by assumption) | exact Or.inl (SqL.of (by assumption)) | exact Or.inl (by assumption) | exact Or.inl (SqL.of upd_same) | exact size_le (Nat.le_of_ble_eq_true rfl) | exact Nat.le_of_ble_eq_true rfl | exact True.intro | exact Or.inl rfl | exact Or.inr rfl | (show (_ : Prop); omega) | (show (_ : Prop); dsimp only; omega) | exact mulw64 (by omega) (by omega) | exact mulw64 (by (try dsimp only); omega) (by (try dsimp only); omega)))
set_option hygiene false in
local macro_rules | `(tactic| walk_at "fl") => `(tactic| simp only [pu_Queues_load_rooms, pi_Queues_load_rooms, pu_Queues_store_rooms, pi_Queues_store_rooms, pu_Queues_loads, pi_Queues_loads, pu_Queues_stores, pi_Queues_stores] at hO)
local macro_rules | `(tactic| walk_at "mem") => `(tactic| ((repeat (first | exact List.Mem.head _ | apply List.Mem.tail | fail)); done))
local macro_rules | `(tactic| walk_at "setat") => `(tactic| ((repeat (first | (with_reducible exact At.head) | (with_reducible apply At.tail) | (with_reducible apply At.app) | fail)); done))
set_option hygiene false in
local macro_rules | `(tactic| walk_at "dv") => `(tactic| ((repeat' (first | exact Dv.nil | exact Dv.of (by walk_at "mem") | exact Dv.ints _ | exact Dv1.of (by walk_at "mem") | exact Dv1.int _ | exact Dv1.non | exact Dv1.bl _ | exact Dv1.str _ | (with_reducible apply Dv.cons) | refine Dv1.tup (by walk_at "mem") ?_ | refine Dv1.lst (by walk_at "mem") ?_ | (with_reducible apply Dv.app) | fail)); done))
local macro_rules | `(tactic| walk_at "ft") => `(tactic| (first | (with_reducible exact Ft.refl) | ((with_reducible apply Ft.toL); focus walk_at "dv") | ((with_reducible apply Ft.toS); focus assumption) | (with_reducible apply Ft.lst) | (with_reducible apply Ft.Le) | (with_reducible apply Ft.dK) | (with_reducible apply Ft.De) | (with_reducible apply Ft.ins) | (with_reducible apply Ft.toL) | (with_reducible apply Ft.toS) | (with_reducible apply Ft.toD) | fail))
local macro_rules | `(tactic| walk_at "sbL") => `(tactic| repeat' (first | (with_reducible exact Sb.refl _) | exact Sb.nil | (with_reducible apply Sb.cons) | (with_reducible apply Sb.app) | (with_reducible exact Pk.one) | (with_reducible exact Pk.here) | (with_reducible exact Pk.all) | (with_reducible apply Pk.skip1) | (with_reducible apply Pk.skipB) | (with_reducible apply Sb.skip) | (with_reducible apply Sb.skipB) | ((with_reducible show Ft _ _ _ _); walk_at "ft") | ((with_reducible show (_ : List _) = _); (first | rfl | (simp [List.map_set, List.map_append]; done) | fail)) | fail))
local macro_rules | `(tactic| walk_at "sb") => `(tactic| ((walk_at "sbL"); done))
local macro_rules | `(tactic| walk_at "ps") => `(tactic| ((repeat' (first | (with_reducible exact Ps.refl) | exact Ps.nil | (with_reducible apply Ps.cons) | exact List.Mem.head _ | apply List.Mem.tail | (with_reducible apply Ps.skip) | fail)); done))
set_option hygiene false in
local macro_rules | `(tactic| walk_at "at") => `(tactic| first | assumption | exact Own.raw hO (by walk_at "mem") | exact Own.ptup hO (by walk_at "mem") | exact Own.plst hO (by walk_at "mem") | fail)
set_option hygiene false in
local macro_rules | `(tactic| walk_at "st") => `(tactic| (rw [upd_mkO hO]; generalize e : updX _ _ _ = H1; (first | ((apply Own.cset hO e); (focus walk_at "setat"); (try clear hO e); intro hO) | ((apply Own.cnewT hO e); (focus assumption); (try clear hO e); intro hO) | ((apply Own.cnew hO e); (focus assumption); (try clear hO e); intro hO) | fail)))
set_option hygiene false in
local macro_rules | `(tactic| walk_at "mk") => `(tactic| (intro p1 p2 f1 f2 f3; rw [upd_mkO hO]; generalize e : upd (updX _ _ _) _ _ = H1; apply Own.cmake hO f1 f2 f3 e; (try clear hO e); intro hO))
set_option hygiene false in
local macro_rules | `(tactic| walk_at "own") => `(tactic| (first | ((apply Own.sub hO); (focus walk_at "sb"); (focus walk_at "ps")) | ((apply Own.sub hF); (focus walk_at "sb"); (focus walk_at "ps")) | fail))
set_option hygiene false in
local macro_rules | `(tactic| walk_at "fin") => `(tactic| (refine Own.sub hO ?_ (by walk_at "ps"); walk_at "sbL"))
set_option hygiene false in
local macro_rules | `(tactic| walk_at "g1") => `(tactic| (first
 | ((with_reducible show (_ : Option HO) = _); walk_at "at")
 | ((with_reducible show (_ : Int) < _); omega) | ((with_reducible show (_ : Int) ≤ _); omega)
 | ((with_reducible show (_ : Nat) < _); (first | assumption | exact Nat.le_of_ble_eq_true rfl | exact size_lt (Nat.le_of_ble_eq_true rfl) | omega | (simp; done) | (simp; omega) | fail))
 | ((with_reducible show (_ : Nat) ≤ _); (first | assumption | exact Nat.le_of_ble_eq_true rfl | exact size_le (Nat.le_of_ble_eq_true rfl) | omega | (simp; done) | (simp; omega) | fail))
 | ((with_reducible show Own _ _ _ _); (first | walk_at "own" | (walk_at "st"; walk_at "own") | fail))
 | ((with_reducible show SqL _ _ _ _); (first | assumption | exact SqL.of (by walk_at "at") | fail))
 | ((with_reducible show SqT _ _ _ _); (first | assumption | exact hO.psq (by walk_at "mem") | exact SqT.of (by walk_at "at") | fail))
  | ((with_reducible show Cls _ _); exact Txt.cl_Queues T) | ((with_reducible show NoAttr _ _ _); exact Txt.n_Queues_load_rooms T) | (with_reducible exact gt_Queues_load_rooms) | ((with_reducible show NoAttr _ _ _); exact Txt.n_Queues_store_rooms T) | (with_reducible exact gt_Queues_store_rooms) | ((with_reducible show NoAttr _ _ _); exact Txt.n_Queues_loads T) | (with_reducible exact gt_Queues_loads) | ((with_reducible show NoAttr _ _ _); exact Txt.n_Queues_stores T) | (with_reducible exact gt_Queues_stores)  | ((with_reducible show V.ref _ = V.ref _); (first | rfl | fail))
 | ((with_reducible show DGet _ _ _ _); (first | exact DGet.ki (by walk_at "at") (by assumption) | exact DGet.kiF (by walk_at "at") (by assumption) | fail))
 | ((with_reducible show DPut _ _ _ _ _); exact DPut.ki (by walk_at "at") (by assumption))
 | ((with_reducible show Rd _ _ _); (first | exact Or.inl (by walk_at "at") | exact Or.inr ⟨_, by walk_at "at"⟩ | fail))
 | ((with_reducible show (∃ _ : List (Key × V), _) ∨ _); refine Or.inl ⟨_, by walk_at "at", ?_⟩)
 | ((with_reducible show Dv _ _ _ _); focus walk_at "dv") | ((with_reducible show Dv1 _ _ _ _); focus walk_at "dv")
 | ((with_reducible show IsD _ _); exact Or.inl ⟨_, Or.inl (by walk_at "at")⟩)
 | ((with_reducible show V.int _ = kV _); exact kV_int)
 | ((with_reducible show Option.isSome _ = true); (first | exact isSome_ofV (by assumption) | assumption | fail))
 | ((with_reducible show SqL _ _ _ _ ∨ SqT _ _ _ _); (first | exact Or.inl (by assumption) | exact Or.inr (by assumption) | exact Or.inl (SqL.of (by walk_at "at")) | exact Or.inr (SqT.of (by walk_at "at")) | fail))
 | ((with_reducible show Dp _ _ _ _); (first | assumption | exact hO.dpL (by walk_at "mem") | exact .lst (SqL.of (by walk_at "at")) (hO.all (by walk_at "dv")) | exact hO.one (by walk_at "dv") | fail))
 | ((with_reducible show TruV _ _ _ _); (first | exact Or.inl ⟨_, SqL.of (by walk_at "at"), rfl⟩ | exact Or.inr (Or.inr ⟨_, by walk_at "at", rfl⟩) | exact Or.inr (Or.inl ⟨_, SqT.of (by walk_at "at"), rfl⟩) | fail))
 | ((with_reducible show RgOk _ _); exact RgOk.of_le (by omega) (by omega) (by omega) (by omega))
 | rfl | (with_reducible assumption) | apply And.intro | apply Exists.intro | refine iteT ?_ | refine iteF ?_
 | (walk_at "st"; (try walk_at "fl"))
 | ((with_reducible show ∀ _ : Addr, _ = none → _); (fail_if_success (with_reducible show ∀ _ : Addr, _ = none → ∃ _ : Nat → Nat → Hp → Prop, _)); intro p fp; walk_at "st")
 | (refine Or.inl ⟨SqL.of (by walk_at "at"), ?_⟩) | (refine Or.inr ⟨SqT.of (by walk_at "at"), ?_⟩) | exact Or.inl ⟨_, by walk_at "at", rfl⟩ | exact Or.inl ⟨rfl, _, SqL.of (by walk_at "at")⟩ | exact tyl_of (by walk_at "at") | exact Or.inl (SqL.of (by walk_at "at")) | exact Or.inr (SqT.of (by walk_at "at")) | exact Or.inl (by walk_at "at") | exact size_le (Nat.le_of_ble_eq_true rfl) | exact Nat.le_of_ble_eq_true rfl | exact True.intro | exact Or.inl rfl | exact Or.inr rfl | (show (_ : Prop); assumption) | (show (_ : Prop); omega) | (show (_ : Prop); dsimp only; omega) | exact mulw64 (by omega) (by omega) | exact mulw64 (by (try dsimp only); omega) (by (try dsimp only); omega) | fail))
local macro_rules | `(tactic| walk_at "go") => `(tactic| repeat walk_at "g1")

section
variable {P : Program} {w : World} {K : PySem.W.Frag} {mg : Str → Option Value} {base : Heap}
theorem fv_oD (o : Option Int) : fv (oD o) = oV o := by cases o <;> rfl
theorem opnR {K : PySem.W.Frag} {H : Hp} {L : List (Addr × Ob)} {P : List Pf} {v : V} {r : QR} (h : Own K H L P) (x : Dv1 K P v (rD r)) : ∃ t, v = .ref t ∧ Own K H L (.sq t [.int r.1, oV r.2.1, oV r.2.2] :: P) := by
  obtain ⟨n, oa, ob⟩ := r
  obtain ⟨t, e, h2⟩ := h.opn x (by cases oa <;> cases ob <;> rfl)
  refine ⟨t, e, ?_⟩
  have e2 : [PyData.int n, oD oa, oD ob].map fv = [.int n, oV oa, oV ob] := by rw [List.map_cons, List.map_cons, List.map_cons, fv_oD, fv_oD]; rfl
  rw [← e2]; exact h2
def sp_Lsource (K : PySem.W.Frag) : Sp := fun vs H Q _ => ∃ (d : Addr) (n pl : Int) (ss : List QR) (R : List (Addr × Ob)) (P : List Pf), vs = [.ref d, .int n, .int pl] ∧ Own K H ((d, .L (ss.map rD)) :: R) P ∧
  ∀ (t : Addr) (H' : Hp) (P' : List Pf), Ps P P' → Own K H' ((d, .L (ss.map rD)) :: R) P' → Dv1 K P' (.ref t) (srcD (srcOf ss n pl)) → Q (.ref t) H'
theorem ok_Lsource (T : Txt K mg) : FnOk P w K mg base CX0 1 T.f_Lsource T.fd_Lsource ["_law_stores", "_law_number", "_law_place"] (sp_Lsource K) := by
  refine T.F_Lsource.ok sc_Lsource (fun vs H Q E h => ?_) (fun cdv A outer s H vs Q E hr h => ?_)
  · obtain ⟨d, n, pl, ss, R, P, rfl, hO, k⟩ := h; rfl
  · obtain ⟨d, n, pl, ss, R, P, rfl, hO, k⟩ := h
    refine ⟨_, (pss_cons (ps_set (i := 3) sc_Lsource.nd rfl (Or.inl rfl) (pe_tup (pa_cons pe_str pa_nil)))
        (pss_cons (ps_forS PassesOwn.never rfl (pi_list (pv 0)) (pg_tup rfl (pgs_cons (pg_name (i := 4) sc_Lsource.nd rfl (Or.inl rfl)) (pgs_cons (pg_name (i := 5) sc_Lsource.nd rfl (Or.inl rfl)) (pgs_cons (pg_name (i := 6) sc_Lsource.nd rfl (Or.inl rfl)) pgs_nil))))
          (pss_one (ps_if (PW.pt (pw_and (pt_cmpR op_eq (pv 5) (pv 2) (nomark _)) (pw_and1 (pt_cmpR op_lt (pv 4) (pv 1) (nomark _)))))
            (pss_one (ps_set (i := 3) sc_Lsource.nd rfl (Or.inl rfl) (pe_tup (pa_cons pe_str (pa_cons (pv 4) (pa_cons (pv 6) pa_nil))))))
            pss_nil)))
        (pss_one (ps_ret (pv 3))))), ?_⟩
    clear hr
    obtain ⟨vs, o1⟩ := hO.openL (a := d) List.mem_cons_self
    replace hO := o1 _ .head
    clear o1
    have hvl : vs.length = ss.length := by
      have := (hO.pdp List.mem_cons_self).len
      rwa [List.length_map] at this
    walk_at "go"
    have dv0 : Dv1 K (.tup p [.str "memory"] :: .dp vs (ss.map rD) :: P) (.ref p) (srcD (srcOf (ss.take 0) n pl)) := Dv1.tup List.mem_cons_self (Dv.cons (Dv1.str _) Dv.nil)
    walk_at "go"
    refine ⟨for_list (xs := vs) (fun i σ H' => Stop (∃ (t4 t5 t6 : Option V) (f : Addr) (P' : List Pf), σ = [some (.ref d), some (.int n), some (.int pl), some (.ref f), t4, t5, t6] ∧ Ps (.dp vs (ss.map rD) :: P) P' ∧ Dv1 K P' (.ref f) (srcD (srcOf (ss.take i) n pl)) ∧ Own K H' ((d, .raw (.lst vs)) :: R) P')) ⟨⟨none, none, none, p, _, rfl, Ps.skip Ps.refl, dv0, hO⟩⟩ (fun i σ H' hi h => ?_) (fun i v σ H' hv h => ?_) (fun σ H' h => ?_)⟩
    · obtain ⟨t4, t5, t6, f, P', rfl, sp, df, hO⟩ := h.h
      exact SqL.of (hO.raw (by walk_at "mem"))
    · clear hO dv0
      obtain ⟨t4, t5, t6, f, P', rfl, sp, df, hO⟩ := h.h
      clear h
      obtain ⟨r, hr⟩ : ∃ r, ss[i]? = some r := ⟨ss[i]'(by have := (List.getElem?_eq_some_iff.mp hv).1; omega), List.getElem?_eq_getElem _⟩
      obtain ⟨t, rfl, hO⟩ := opnR hO (r := r) (Dv.get (vs := vs) (ds := ss.map rD) (Dv.of (sp _ List.mem_cons_self)) hv (by rw [List.getElem?_map, hr]; rfl))
      have sp4 := sp.trans (Ps.skip (q := Pf.sq t [.int r.1, oV r.2.1, oV r.2.2]) (Ps.refl (P := P')))
      have hs := srcOf_snoc hr n pl
      replace df := df.mono (Ps.skip (q := Pf.sq t [.int r.1, oV r.2.1, oV r.2.2]) (Ps.refl (P := P')))
      obtain ⟨ln, oa, ob⟩ := r
      dsimp only at hO hs sp4 df ⊢
      rcases oa with _ | oa
      · rw [if_neg (by simp)] at hs
        rw [← hs] at df
        walk_at "go"
        exact ⟨⟨_, _, _, _, _, rfl, sp4, df, hO⟩⟩
      · walk_at "go"
        refine iteD (fun h2 => ?_) (fun h2 => ?_)
        · have e2 : oa = pl := V.int.inj h2
          walk_at "go"
          refine iteD (fun h1 => ?_) (fun h1 => ?_)
          · rw [if_pos ⟨h1, by rw [e2]⟩] at hs
            walk_at "go"
            refine ⟨⟨_, _, _, _, _, rfl, sp4.trans (Ps.skip Ps.refl), ?_, hO⟩⟩
            rw [hs]
            exact Dv1.tup List.mem_cons_self (Dv.cons (Dv1.str _) (Dv.cons (Dv1.int _) (Dv.cons (Dv1.oV _) Dv.nil)))
          · rw [if_neg (by simp [h1])] at hs
            rw [← hs] at df
            walk_at "go"
            exact ⟨⟨_, _, _, _, _, rfl, sp4, df, hO⟩⟩
        · have e2 : oa ≠ pl := fun z => h2 (congrArg V.int z)
          rw [if_neg (by simp [e2])] at hs
          rw [← hs] at df
          walk_at "go"
          exact ⟨⟨_, _, _, _, _, rfl, sp4, df, hO⟩⟩
    · clear hO dv0
      obtain ⟨t4, t5, t6, f, P', rfl, sp, df, hO⟩ := h.h
      clear h
      rw [hvl, List.take_length] at df
      walk_at "go"
      refine k f _ P' ((Ps.skip Ps.refl).trans sp) ?_ df
      walk_at "fin"
      exact Dv.of (sp _ List.mem_cons_self)
def sp_Learly (K : PySem.W.Frag) : Sp := fun vs H Q _ => ∃ (d : Addr) (n pl : Int) (ls : List QR) (R : List (Addr × Ob)) (P : List Pf), vs = [.ref d, .int n, .int pl] ∧ Own K H ((d, .L (ls.map rD)) :: R) P ∧
  ∀ (H' : Hp) (P' : List Pf), Ps P P' → Own K H' ((d, .L (ls.map rD)) :: R) P' → Q (oV (erl ls n pl)) H'
theorem ok_Learly (T : Txt K mg) : FnOk P w K mg base CX0 1 T.f_Learly T.fd_Learly ["_law_loads", "_law_number", "_law_place"] (sp_Learly K) := by
  refine T.F_Learly.ok sc_Learly (fun vs H Q E h => ?_) (fun cdv A outer s H vs Q E hr h => ?_)
  · obtain ⟨d, n, pl, ls, R, P, rfl, hO, k⟩ := h; rfl
  · obtain ⟨d, n, pl, ls, R, P, rfl, hO, k⟩ := h
    refine ⟨_, (pss_cons (ps_forS PassesOwn.never rfl (pi_list (pv 0)) (pg_tup rfl (pgs_cons (pg_name (i := 3) sc_Learly.nd rfl (Or.inl rfl)) (pgs_cons (pg_name (i := 4) sc_Learly.nd rfl (Or.inl rfl)) (pgs_cons (pg_name (i := 5) sc_Learly.nd rfl (Or.inl rfl)) pgs_nil))))
          (pss_one (ps_if (PW.pt (pw_and (pt_cmpR op_gt (pv 3) (pv 1) (nomark _)) (pw_and (pt_cmpR op_eq (pv 4) (pv 2) (nomark _)) (pw_and1 (PW.pt (pw_or (pt_cmpR op_isN (pv 5) pe_non (nomark _)) (pw_or1 (pt_cmpR op_lt (pv 5) (pv 1) (nomark _)))))))))
            (pss_one (ps_ret (pv 3)))
            pss_nil)))
        (pss_one (ps_ret pe_non))), ?_⟩
    clear hr
    obtain ⟨vs, o1⟩ := hO.openL (a := d) List.mem_cons_self
    replace hO := o1 _ .head
    clear o1
    have hvl : vs.length = ls.length := by
      have := (hO.pdp List.mem_cons_self).len
      rwa [List.length_map] at this
    walk_at "go"
    refine ⟨for_list (xs := vs) (fun i σ H' => Stop (∃ (t4 t5 t6 : Option V) (P' : List Pf), σ = [some (.ref d), some (.int n), some (.int pl), t4, t5, t6] ∧ Ps (.dp vs (ls.map rD) :: P) P' ∧ (∀ (j : Nat) (q : QR), j < i → ls[j]? = some q → hitE n pl q = false) ∧ Own K H' ((d, .raw (.lst vs)) :: R) P')) ⟨⟨none, none, none, _, rfl, Ps.refl, (fun j q h => nomatch h), hO⟩⟩ (fun i σ H' hi h => ?_) (fun i v σ H' hv h => ?_) (fun σ H' h => ?_)⟩
    · obtain ⟨t4, t5, t6, P', rfl, sp, hno, hO⟩ := h.h
      exact SqL.of (hO.raw (by walk_at "mem"))
    · clear hO
      obtain ⟨t4, t5, t6, P', rfl, sp, hno, hO⟩ := h.h
      clear h
      obtain ⟨r, hr⟩ : ∃ r, ls[i]? = some r := ⟨ls[i]'(by have := (List.getElem?_eq_some_iff.mp hv).1; omega), List.getElem?_eq_getElem _⟩
      obtain ⟨t, rfl, hO⟩ := opnR hO (r := r) (Dv.get (vs := vs) (ds := ls.map rD) (Dv.of (sp _ List.mem_cons_self)) hv (by rw [List.getElem?_map, hr]; rfl))
      have sp4 := sp.trans (Ps.skip (q := Pf.sq t [.int r.1, oV r.2.1, oV r.2.2]) (Ps.refl (P := P')))
      have hyes : hitE n pl r = true → erl ls n pl = some r.1 := fun h => by rw [erl, find_hit hr h hno]; rfl
      have hnon : hitE n pl r = false → _ := no_snoc hno hr
      clear hno
      obtain ⟨ln, oa, ob⟩ := r
      dsimp only at hO hyes hnon sp4 ⊢
      rcases oa with _ | oa
      · walk_at "go"
        refine iteD (fun h1 => ?_) (fun h1 => ?_)
        · walk_at "go"
          exact ⟨⟨_, _, _, _, rfl, sp4, hnon (by simp [hitE, h1]), hO⟩⟩
        · walk_at "go"
          exact ⟨⟨_, _, _, _, rfl, sp4, hnon (by simp [hitE, h1]), hO⟩⟩
      · rcases ob with _ | ob
        · walk_at "go"
          refine iteD (fun h1 => ?_) (fun h1 => ?_)
          · walk_at "go"
            refine iteD (fun h2 => ?_) (fun h2 => ?_)
            · have e2 : oa = pl := V.int.inj h2
              rw [hyes (by simp [hitE, h1, e2])] at k
              walk_at "go"
              refine k _ _ ((Ps.skip Ps.refl).trans sp4) ?_
              walk_at "fin"
              exact Dv.of (sp4 _ List.mem_cons_self)
            · have e2 : oa ≠ pl := fun z => h2 (congrArg V.int z)
              walk_at "go"
              exact ⟨⟨_, _, _, _, rfl, sp4, hnon (by simp [hitE, h1, e2]), hO⟩⟩
          · walk_at "go"
            exact ⟨⟨_, _, _, _, rfl, sp4, hnon (by simp [hitE, h1]), hO⟩⟩
        · walk_at "go"
          refine iteD (fun h1 => ?_) (fun h1 => ?_)
          · walk_at "go"
            refine iteD (fun h2 => ?_) (fun h2 => ?_)
            · have e2 : oa = pl := V.int.inj h2
              walk_at "go"
              refine iteD (fun h3 => ?_) (fun h3 => ?_)
              · rw [hyes (by simp [hitE, h1, e2, h3])] at k
                walk_at "go"
                refine k _ _ ((Ps.skip Ps.refl).trans sp4) ?_
                walk_at "fin"
                exact Dv.of (sp4 _ List.mem_cons_self)
              · walk_at "go"
                exact ⟨⟨_, _, _, _, rfl, sp4, hnon (by simp [hitE, h1, e2, h3]), hO⟩⟩
            · have e2 : oa ≠ pl := fun z => h2 (congrArg V.int z)
              walk_at "go"
              exact ⟨⟨_, _, _, _, rfl, sp4, hnon (by simp [hitE, h1, e2]), hO⟩⟩
          · walk_at "go"
            exact ⟨⟨_, _, _, _, rfl, sp4, hnon (by simp [hitE, h1]), hO⟩⟩
    · clear hO
      obtain ⟨t4, t5, t6, P', rfl, sp, hno, hO⟩ := h.h
      clear h
      walk_at "go"
      rw [hvl] at hno
      have e : erl ls n pl = none := by rw [erl, find_nohit hno]; rfl
      rw [e] at k
      refine k _ P' ((Ps.skip Ps.refl).trans sp) ?_
      walk_at "fin"
      exact Dv.of (sp _ List.mem_cons_self)
end
end K76

set_option Elab.async false
set_option linter.all false
set_option maxRecDepth 100000
set_option maxHeartbeats 8000000

namespace K76
open PySem PySem.Spec PyProof.Rows L2 Hx 
local macro_rules | `(tactic| walk_at "sm") => `(tactic| repeat' (first | assumption | apply Hx.Same.upd | exact L2.Same.refl _ | apply same_trans'))
local macro_rules | `(tactic| walk_at "hp") => `(tactic| repeat' (first | assumption | exact upd_same | apply old_upd | apply same_at))
local macro_rules | `(tactic| walk_at "rd") => `(tactic| repeat' (first | rfl | apply Exists.intro | apply And.intro | refine iteT ?_ | refine iteF ?_ | exact upd_same | exact SqL.of (by assumption) | exact SqL.of upd_same | exact SqT.of upd_same | exact SqT.of (by assumption) | ((with_reducible show (_ : Int) < _); omega) | ((with_reducible show (_ : Int) ≤ _); omega) | (show (_ : Prop); assumption) | exact Or.inl ⟨_, by assumption, rfl⟩ | exact Or.inl ⟨rfl, _, SqL.of (by assumption)⟩ | exact Or.inl ⟨rfl, _, SqL.of upd_same⟩ | apply old_upd | apply Hx.SqL.new | apply tyl_new | apply Pot.new | exact same_at (by assumption) (by assumption) | exact Or.inl (SqL.of (by assumption)) | exact Or.inl (by assumption) | exact Or.inl (SqL.of upd_same) | exact size_le (Nat.le_of_ble_eq_true rfl) | exact Nat.le_of_ble_eq_true rfl | exact True.intro | exact Or.inl rfl | exact Or.inr rfl | (show (_ : Prop); omega) | (show (_ : Prop); dsimp only; omega) | exact mulw64 (by omega) (by omega) | exact mulw64 (by (try dsimp only); omega) (by (try dsimp only); omega)))
set_option hygiene false in
local macro_rules | `(tactic| walk_at "fl") => `(tactic| simp only [pu_Queues_load_rooms, pi_Queues_load_rooms, pu_Queues_store_rooms, pi_Queues_store_rooms, pu_Queues_loads, pi_Queues_loads, pu_Queues_stores, pi_Queues_stores] at hO)
local macro_rules | `(tactic| walk_at "mem") => `(tactic| ((repeat (first | exact List.Mem.head _ | apply List.Mem.tail | fail)); done))
local macro_rules | `(tactic| walk_at "setat") => `(tactic| ((repeat (first | (with_reducible exact At.head) | (with_reducible apply At.tail) | (with_reducible apply At.app) | fail)); done))
set_option hygiene false in
local macro_rules | `(tactic| walk_at "dv") => `(tactic| ((repeat' (first | exact Dv.nil | exact Dv.of (by walk_at "mem") | exact Dv.ints _ | exact Dv1.of (by walk_at "mem") | exact Dv1.int _ | exact Dv1.non | exact Dv1.bl _ | exact Dv1.str _ | (with_reducible apply Dv.cons) | refine Dv1.tup (by walk_at "mem") ?_ | refine Dv1.lst (by walk_at "mem") ?_ | (with_reducible apply Dv.app) | fail)); done))
local macro_rules | `(tactic| walk_at "ft") => `(tactic| (first | (with_reducible exact Ft.refl) | ((with_reducible apply Ft.toL); focus walk_at "dv") | ((with_reducible apply Ft.toS); focus assumption) | (with_reducible apply Ft.lst) | (with_reducible apply Ft.Le) | (with_reducible apply Ft.dK) | (with_reducible apply Ft.De) | (with_reducible apply Ft.ins) | (with_reducible apply Ft.toL) | (with_reducible apply Ft.toS) | (with_reducible apply Ft.toD) | fail))
local macro_rules | `(tactic| walk_at "sbL") => `(tactic| repeat' (first | (with_reducible exact Sb.refl _) | exact Sb.nil | (with_reducible apply Sb.cons) | (with_reducible apply Sb.app) | (with_reducible exact Pk.one) | (with_reducible exact Pk.here) | (with_reducible exact Pk.all) | (with_reducible apply Pk.skip1) | (with_reducible apply Pk.skipB) | (with_reducible apply Sb.skip) | (with_reducible apply Sb.skipB) | ((with_reducible show Ft _ _ _ _); walk_at "ft") | ((with_reducible show (_ : List _) = _); (first | rfl | (simp [List.map_set, List.map_append]; done) | fail)) | fail))
local macro_rules | `(tactic| walk_at "sb") => `(tactic| ((walk_at "sbL"); done))
local macro_rules | `(tactic| walk_at "ps") => `(tactic| ((repeat' (first | (with_reducible exact Ps.refl) | exact Ps.nil | (with_reducible apply Ps.cons) | exact List.Mem.head _ | apply List.Mem.tail | (with_reducible apply Ps.skip) | fail)); done))
set_option hygiene false in
local macro_rules | `(tactic| walk_at "at") => `(tactic| first | assumption | exact Own.raw hO (by walk_at "mem") | exact Own.ptup hO (by walk_at "mem") | exact Own.plst hO (by walk_at "mem") | fail)
set_option hygiene false in
local macro_rules | `(tactic| walk_at "st") => `(tactic| (rw [upd_mkO hO]; generalize e : updX _ _ _ = H1; (first | ((apply Own.cset hO e); (focus walk_at "setat"); (try clear hO e); intro hO) | ((apply Own.cnewT hO e); (focus assumption); (try clear hO e); intro hO) | ((apply Own.cnew hO e); (focus assumption); (try clear hO e); intro hO) | fail)))
set_option hygiene false in
local macro_rules | `(tactic| walk_at "mk") => `(tactic| (intro p1 p2 f1 f2 f3; rw [upd_mkO hO]; generalize e : upd (updX _ _ _) _ _ = H1; apply Own.cmake hO f1 f2 f3 e; (try clear hO e); intro hO))
set_option hygiene false in
local macro_rules | `(tactic| walk_at "own") => `(tactic| (first | ((apply Own.sub hO); (focus walk_at "sb"); (focus walk_at "ps")) | ((apply Own.sub hF); (focus walk_at "sb"); (focus walk_at "ps")) | fail))
set_option hygiene false in
local macro_rules | `(tactic| walk_at "fin") => `(tactic| (refine Own.sub hO ?_ (by walk_at "ps"); walk_at "sbL"))
set_option hygiene false in
local macro_rules | `(tactic| walk_at "g1") => `(tactic| (first
 | ((with_reducible show (_ : Option HO) = _); walk_at "at")
 | ((with_reducible show (_ : Int) < _); omega) | ((with_reducible show (_ : Int) ≤ _); omega)
 | ((with_reducible show (_ : Nat) < _); (first | assumption | exact Nat.le_of_ble_eq_true rfl | exact size_lt (Nat.le_of_ble_eq_true rfl) | omega | (simp; done) | (simp; omega) | fail))
 | ((with_reducible show (_ : Nat) ≤ _); (first | assumption | exact Nat.le_of_ble_eq_true rfl | exact size_le (Nat.le_of_ble_eq_true rfl) | omega | (simp; done) | (simp; omega) | fail))
 | ((with_reducible show Own _ _ _ _); (first | walk_at "own" | (walk_at "st"; walk_at "own") | fail))
 | ((with_reducible show SqL _ _ _ _); (first | assumption | exact SqL.of (by walk_at "at") | fail))
 | ((with_reducible show SqT _ _ _ _); (first | assumption | exact hO.psq (by walk_at "mem") | exact SqT.of (by walk_at "at") | fail))
  | ((with_reducible show Cls _ _); exact Txt.cl_Queues T) | ((with_reducible show NoAttr _ _ _); exact Txt.n_Queues_load_rooms T) | (with_reducible exact gt_Queues_load_rooms) | ((with_reducible show NoAttr _ _ _); exact Txt.n_Queues_store_rooms T) | (with_reducible exact gt_Queues_store_rooms) | ((with_reducible show NoAttr _ _ _); exact Txt.n_Queues_loads T) | (with_reducible exact gt_Queues_loads) | ((with_reducible show NoAttr _ _ _); exact Txt.n_Queues_stores T) | (with_reducible exact gt_Queues_stores)  | ((with_reducible show V.ref _ = V.ref _); (first | rfl | fail))
 | ((with_reducible show DGet _ _ _ _); (first | exact DGet.ki (by walk_at "at") (by assumption) | exact DGet.kiF (by walk_at "at") (by assumption) | fail))
 | ((with_reducible show DPut _ _ _ _ _); exact DPut.ki (by walk_at "at") (by assumption))
 | ((with_reducible show Rd _ _ _); (first | exact Or.inl (by walk_at "at") | exact Or.inr ⟨_, by walk_at "at"⟩ | fail))
 | ((with_reducible show (∃ _ : List (Key × V), _) ∨ _); refine Or.inl ⟨_, by walk_at "at", ?_⟩)
 | ((with_reducible show Dv _ _ _ _); focus walk_at "dv") | ((with_reducible show Dv1 _ _ _ _); focus walk_at "dv")
 | ((with_reducible show IsD _ _); exact Or.inl ⟨_, Or.inl (by walk_at "at")⟩)
 | ((with_reducible show V.int _ = kV _); exact kV_int)
 | ((with_reducible show Option.isSome _ = true); (first | exact isSome_ofV (by assumption) | assumption | fail))
 | ((with_reducible show SqL _ _ _ _ ∨ SqT _ _ _ _); (first | exact Or.inl (by assumption) | exact Or.inr (by assumption) | exact Or.inl (SqL.of (by walk_at "at")) | exact Or.inr (SqT.of (by walk_at "at")) | fail))
 | ((with_reducible show Dp _ _ _ _); (first | assumption | exact hO.dpL (by walk_at "mem") | exact .lst (SqL.of (by walk_at "at")) (hO.all (by walk_at "dv")) | exact hO.one (by walk_at "dv") | fail))
 | ((with_reducible show TruV _ _ _ _); (first | exact Or.inl ⟨_, SqL.of (by walk_at "at"), rfl⟩ | exact Or.inr (Or.inr ⟨_, by walk_at "at", rfl⟩) | exact Or.inr (Or.inl ⟨_, SqT.of (by walk_at "at"), rfl⟩) | fail))
 | ((with_reducible show RgOk _ _); exact RgOk.of_le (by omega) (by omega) (by omega) (by omega))
 | rfl | (with_reducible assumption) | apply And.intro | apply Exists.intro | refine iteT ?_ | refine iteF ?_
 | (walk_at "st"; (try walk_at "fl"))
 | ((with_reducible show ∀ _ : Addr, _ = none → _); (fail_if_success (with_reducible show ∀ _ : Addr, _ = none → ∃ _ : Nat → Nat → Hp → Prop, _)); intro p fp; walk_at "st")
 | (refine Or.inl ⟨SqL.of (by walk_at "at"), ?_⟩) | (refine Or.inr ⟨SqT.of (by walk_at "at"), ?_⟩) | exact Or.inl ⟨_, by walk_at "at", rfl⟩ | exact Or.inl ⟨rfl, _, SqL.of (by walk_at "at")⟩ | exact tyl_of (by walk_at "at") | exact Or.inl (SqL.of (by walk_at "at")) | exact Or.inr (SqT.of (by walk_at "at")) | exact Or.inl (by walk_at "at") | exact size_le (Nat.le_of_ble_eq_true rfl) | exact Nat.le_of_ble_eq_true rfl | exact True.intro | exact Or.inl rfl | exact Or.inr rfl | (show (_ : Prop); assumption) | (show (_ : Prop); omega) | (show (_ : Prop); dsimp only; omega) | exact mulw64 (by omega) (by omega) | exact mulw64 (by (try dsimp only); omega) (by (try dsimp only); omega) | fail))
local macro_rules | `(tactic| walk_at "go") => `(tactic| repeat walk_at "g1")

section
variable {P : Program} {w : World} {K : PySem.W.Frag} {mg : Str → Option Value} {base : Heap}
theorem rD_lay (r : QR) : (rD r).canLay0 = true := by
  obtain ⟨n, oa, ob⟩ := r
  cases oa <;> cases ob <;> simp [rD, oD, PyData.canLay0, PyData.canLayAll0]
theorem rD_depth (r : QR) : (rD r).depth ≤ 1 := by
  obtain ⟨n, oa, ob⟩ := r
  cases oa <;> cases ob <;> simp [rD, oD, PyData.depth, PyData.depthAll]
theorem rDs_lay : ∀ rs : List QR, PyData.canLayAll0 (rs.map rD) = true
  | [] => by simp [PyData.canLayAll0]
  | r :: rs => by simp [PyData.canLayAll0, rD_lay r, rDs_lay rs]
theorem rDs_depth : ∀ rs : List QR, PyData.depthAll (rs.map rD) ≤ 1
  | [] => by simp [PyData.depthAll]
  | r :: rs => by
    have h1 := rDs_depth rs
    have h2 := rD_depth r
    simp only [List.map_cons, PyData.depthAll]
    omega
theorem sh_rows (rs : List QR) : SeqAt.shaped (.list (rs.map rD)) = true := by
  have h1 := rDs_depth rs
  have h2 : PyData.depth (.list (rs.map rD)) ≤ 64 := by
    simp only [PyData.depth]
    omega
  show (PyData.canLay0 (.list (rs.map rD)) && decide (PyData.depth (.list (rs.map rD)) ≤ 64)) = true
  rw [Bool.and_eq_true]
  exact ⟨by simp only [PyData.canLay0]; exact rDs_lay rs, decide_eq_true h2⟩
theorem sh_src (o : Option (Int × Option Int)) : SeqAt.shaped (srcD o) = true := by
  rcases o with _ | ⟨n, _ | w⟩ <;> (simp [srcD, oD, SeqAt.shaped, PyData.canLay0, PyData.canLayAll0, PyData.depth, PyData.depthAll]; decide +kernel)
theorem sh_bools (a b : Bool) : SeqAt.shaped (.list [.bool a, .bool b]) = true := by rfl
def sp_Ltold (K : PySem.W.Frag) (C : Addr) : Sp := fun vs H Q _ => ∃ (x dx l s : Addr) (a b : Int) (ls ss : List QR) (rm dl ds : Addr) (R : List (Addr × Ob)) (P : List Pf), vs = [.ref x, .ref rm, .ref dl, .ref ds] ∧ Own K H (qu C x dx l s a b ls ss ++ ((dl, .L (ls.map rD)) :: (ds, .L (ss.map rD)) :: R)) P ∧ Pf.tup rm [.int a, .int b] ∈ P ∧ ls.length ≤ 100 ∧ ss.length ≤ 100 ∧ (∀ z ∈ qkeys ls, 0 ≤ z) ∧
  ∀ (H' : Hp) (P' : List Pf), Ps P P' → Own K H' (qu C x dx l s a b ls ss ++ ((dl, .L (ls.map rD)) :: (ds, .L (ss.map rD)) :: R)) P' → Q (.bl true) H'
theorem ok_Ltold_right (T : Txt K mg) : FnOk P w K mg base CX0 6 T.f_Ltold_right T.fd_Ltold_right ["_law_queues", "_law_rooms", "_law_loads", "_law_stores"] (sp_Ltold K T.C_Queues) := by
  have G_Queues_stores := ok_Queues_stores (P := P) (w := w) (base := base) T
  have G_Queues_loads := ok_Queues_loads (P := P) (w := w) (base := base) T
  have G_Queues_can_store := ok_Queues_can_store (P := P) (w := w) (base := base) T
  have G_Queues_can_load := ok_Queues_can_load (P := P) (w := w) (base := base) T
  have G_Queues_source := ok_Queues_source (P := P) (w := w) (base := base) T
  have G_Lsource := ok_Lsource (P := P) (w := w) (base := base) T
  refine T.F_Ltold_right.ok sc_Ltold_right (fun vs H Q E h => ?_) (fun cdv A outer s H vs Q E hr h => ?_)
  · obtain ⟨x, dx, l, s, a, b, ls, ss, rm, dl, ds, R, P, rfl, hO, hrm, hl1, hs1, hpos, k⟩ := h; rfl
  · obtain ⟨x, dx, l, s, a, b, ls, ss, rm, dl, ds, R, P, rfl, hO, hrm, hl1, hs1, hpos, k⟩ := h
    refine ⟨_, (pss_cons (ps_if (PW.pt (pw_or (pt_cmpR (op_neS hr.units) (pe_meth0 (pv 0) T.cl_Queues T.me_Queues_loads G_Queues_loads (hr.mono (by decide)) T.b_Queues_loads .nil pass0) (pv 2) (nomark _)) (pw_or1 (pt_cmpR (op_neS hr.units) (pe_meth0 (pv 0) T.cl_Queues T.me_Queues_stores G_Queues_stores (hr.mono (by decide)) T.b_Queues_stores .nil pass0) (pv 3) (nomark _)))))
          (pss_one (ps_ret pe_bl))
          pss_nil)
        (pss_cons (ps_if (pt_cmpR (op_neS hr.units) (pe_lst (pa_cons (pe_prop (pv 0) T.cl_Queues T.p_Queues_can_load G_Queues_can_load (hr.mono (by decide)) T.b_Queues_can_load .nil pass0 rfl) (pa_cons (pe_prop (pv 0) T.cl_Queues T.p_Queues_can_store G_Queues_can_store (hr.mono (by decide)) T.b_Queues_can_store .nil pass0 rfl) pa_nil))) (pe_lst (pa_cons (pe_cmpR op_lt (pe_callB call_len_list (by rfl) T.m_len (by decide +kernel) (pa_cons (pv 2) pa_nil)) (pe_ix ix_tup (pv 1) pe_int (fun _ _ => rfl)) (nomark _)) (pa_cons (pe_cmpR op_lt (pe_callB call_len_list (by rfl) T.m_len (by decide +kernel) (pa_cons (pv 3) pa_nil)) (pe_ix ix_tup (pv 1) pe_int (fun _ _ => rfl)) (nomark _)) pa_nil))) (nomark _))
          (pss_one (ps_ret pe_bl))
          pss_nil)
        (pss_cons (ps_forS PassesOwn.never rfl (pi_list (pv 2)) (pg_tup rfl (pgs_cons (pg_name (i := 4) sc_Ltold_right.nd rfl (Or.inl rfl)) (pgs_cons (pg_name (i := 5) sc_Ltold_right.nd rfl (Or.inl rfl)) (pgs_cons (pg_name (i := 6) sc_Ltold_right.nd rfl (Or.inl rfl)) pgs_nil))))
          (pss_one (ps_forS PassesOwn.never rfl (pi_list (pe_lst (pa_cons pe_int (pa_cons pe_int (pa_cons pe_int pa_nil))))) (pg_name (i := 7) sc_Ltold_right.nd rfl (Or.inl rfl))
            (pss_one (ps_if (pt_cmpR (op_neS hr.units) (pe_meth (pv 0) T.cl_Queues T.me_Queues_source G_Queues_source (hr.mono (by decide)) T.b_Queues_source .nil pass0 (pa_cons (pv 4) (pa_cons (pv 7) pa_nil))) (pe_call G_Lsource (hr.mono (by decide)) rfl T.g_Lsource T.F_Lsource.kp T.b_Lsource .nil pass0 (pa_cons (pv 3) (pa_cons (pv 4) (pa_cons (pv 7) pa_nil)))) (nomark _))
              (pss_one (ps_ret pe_bl))
              pss_nil)))))
        (pss_one (ps_ret pe_bl))))), ?_⟩
    clear G_Queues_stores G_Queues_loads G_Queues_can_store G_Queues_can_load G_Queues_source G_Lsource
    clear hr
    have S1 := sh_rows ls
    have S2 := sh_rows ss
    walk_at "go"
    intro p1 H2 P2 sp2 hO
    walk_at "go"
    intro p2 H3 P3 sp3 hO
    obtain ⟨vl, o1⟩ := hO.openL (a := dl) (by walk_at "mem")
    replace hO := o1 _ (by walk_at "setat")
    have hvl := (hO.pdp List.mem_cons_self).len
    rw [List.length_map] at hvl
    obtain ⟨vs, o2⟩ := hO.openL (a := ds) (by walk_at "mem")
    replace hO := o2 _ (by walk_at "setat")
    have hvs := (hO.pdp List.mem_cons_self).len
    rw [List.length_map] at hvs
    clear o1 o2
    replace hO := hO.derive (q := .tup rm [.int a, .int b]) fun M h => h _ (List.mem_cons_of_mem _ (List.mem_cons_of_mem _ (sp3 _ (sp2 _ hrm))))
    have S3 := sh_bools (decide ((ls.length : Int) < a)) (decide ((ss.length : Int) < b))
    walk_at "go"
    any_goals first | (rw [← hvl, ← hvs]; exact Dp.lst (SqL.of (hO.raw (by walk_at "mem"))) (.cons (.bl _) (.cons (.bl _) .nil))) | skip
    clear S1 S2 S3
    walk_at "go"
    have hO2 : Own K H1 (qu T.C_Queues x dx l s a b ls ss ++ ((dl, .raw (.lst vl)) :: (ds, .L (ss.map rD)) :: R)) (.dp vl (ls.map rD) :: P3) := by
      refine Own.sub hO ?_ (by walk_at "ps")
      walk_at "sbL"
    clear hO
    have hO := hO2
    clear hO2
    refine ⟨for_list (xs := vl) (fun i σ H' => Stop (∃ (t4 t5 t6 t7 : Option V) (P' : List Pf), σ = [some (.ref x), some (.ref rm), some (.ref dl), some (.ref ds), t4, t5, t6, t7] ∧ Ps (.dp vl (ls.map rD) :: P3) P' ∧ Own K H' (qu T.C_Queues x dx l s a b ls ss ++ ((dl, .raw (.lst vl)) :: (ds, .L (ss.map rD)) :: R)) P')) ⟨⟨none, none, none, none, _, rfl, Ps.refl, hO⟩⟩ (fun i σ H' hi h => ?_) (fun i v σ H' hv h => ?_) (fun σ H' h => ?_)⟩
    · obtain ⟨t4, t5, t6, t7, P', rfl, sp, hO⟩ := h.h
      exact SqL.of (hO.raw (by simp only [qu, List.cons_append, List.nil_append]; walk_at "mem"))
    · clear hO
      obtain ⟨t4, t5, t6, t7, P', rfl, sp, hO⟩ := h.h
      clear h
      obtain ⟨r, hr⟩ : ∃ r, ls[i]? = some r := ⟨ls[i]'(by have := (List.getElem?_eq_some_iff.mp hv).1; omega), List.getElem?_eq_getElem _⟩
      obtain ⟨t, rfl, hO⟩ := opnR hO (r := r) (Dv.get (vs := vl) (ds := ls.map rD) (Dv.of (sp _ List.mem_cons_self)) hv (by rw [List.getElem?_map, hr]; rfl))
      have hrk : r.1 ∈ qkeys ls := List.mem_map.mpr ⟨r, List.mem_of_getElem? hr, rfl⟩
      have hr0 := hpos _ hrk
      obtain ⟨n, oa, ob⟩ := r
      dsimp only at hO hrk hr0
      walk_at "go"
      refine ⟨for_list (xs := [.int 3, .int 700, .int 960]) (fun j σ H' => Stop (∃ (t7 : Option V) (P4 : List Pf), σ = [some (.ref x), some (.ref rm), some (.ref dl), some (.ref ds), some (.int n), some (oV oa), some (oV ob), t7] ∧ Ps P' P4 ∧ Own K H' ((p, .raw (.lst [.int 3, .int 700, .int 960])) :: (qu T.C_Queues x dx l s a b ls ss ++ ((dl, .raw (.lst vl)) :: (ds, .L (ss.map rD)) :: R))) P4)) ⟨⟨t7, _, rfl, Ps.skip Ps.refl, hO⟩⟩ (fun j σ H' hj h => ?_) (fun j v σ H' hv h => ?_) (fun σ H' h => ?_)⟩
      · obtain ⟨t7, P4, rfl, sp4, hO⟩ := h.h
        exact SqL.of (hO.raw List.mem_cons_self)
      · clear hO
        obtain ⟨t7, P4, rfl, sp4, hO⟩ := h.h
        clear h
        obtain ⟨pl, rfl, hpl⟩ : ∃ pl : Int, v = .int pl ∧ 0 ≤ pl ∧ pl < 1024 := by
          have hm := List.mem_of_getElem? hv
          simp only [List.mem_cons, List.not_mem_nil, or_false] at hm
          rcases hm with rfl | rfl | rfl <;> exact ⟨_, rfl, by decide, by decide⟩
        walk_at "go"
        intro u1 H5 P5 sp5 hO dv1
        walk_at "go"
        intro u2 H6 P6 sp6 hO dv2
        have d1 := hO.one (dv1.mono sp6)
        have d2 := hO.one dv2
        have S := sh_src (srcOf ss n pl)
        walk_at "go"
        refine ⟨⟨_, _, rfl, sp4.trans (sp5.trans sp6), ?_⟩⟩
        walk_at "fin"
      · clear hO
        obtain ⟨t7, P4, rfl, sp4, hO⟩ := h.h
        clear h
        refine ⟨⟨_, _, _, _, _, rfl, sp.trans sp4, ?_⟩⟩
        walk_at "fin"
    · clear hO
      obtain ⟨t4, t5, t6, t7, P', rfl, sp, hO⟩ := h.h
      clear h
      walk_at "go"
      refine k _ P' (sp2.trans (sp3.trans ((Ps.skip Ps.refl).trans sp))) ?_
      walk_at "fin"
      exact Dv.of (sp _ List.mem_cons_self)
end
end K76

set_option Elab.async false
set_option linter.all false
set_option maxRecDepth 100000
set_option maxHeartbeats 8000000

namespace K76
open PySem PySem.Spec PyProof.Rows L2 Hx 
local macro_rules | `(tactic| walk_at "sm") => `(tactic| repeat' (first | assumption | apply Hx.Same.upd | exact L2.Same.refl _ | apply same_trans'))
local macro_rules | `(tactic| walk_at "hp") => `(tactic| repeat' (first | assumption | exact upd_same | apply old_upd | apply same_at))
local macro_rules | `(tactic| walk_at "rd") => `(tactic| repeat' (first | rfl | apply Exists.intro | apply And.intro | refine iteT ?_ | refine iteF ?_ | exact upd_same | exact SqL.of (by assumption) | exact SqL.of upd_same | exact SqT.of upd_same | exact SqT.of (by assumption) | ((with_reducible show (_ : Int) < _); omega) | ((with_reducible show (_ : Int) ≤ _); omega) | (show (_ : Prop); assumption) | exact Or.inl ⟨_, by assumption, rfl⟩ | exact Or.inl ⟨rfl, _, SqL.of (by assumption)⟩ | exact Or.inl ⟨rfl, _, SqL.of upd_same⟩ | apply old_upd | apply Hx.SqL.new | apply tyl_new | apply Pot.new | exact same_at (by assumption) (by assumption) | exact Or.inl (SqL.of (by assumption)) | exact Or.inl (by assumption) | exact Or.inl (SqL.of upd_same) | exact size_le (Nat.le_of_ble_eq_true rfl) | exact Nat.le_of_ble_eq_true rfl | exact True.intro | exact Or.inl rfl | exact Or.inr rfl | (show (_ : Prop); omega) | (show (_ : Prop); dsimp only; omega) | exact mulw64 (by omega) (by omega) | exact mulw64 (by (try dsimp only); omega) (by (try dsimp only); omega)))
set_option hygiene false in
local macro_rules | `(tactic| walk_at "fl") => `(tactic| simp only [pu_Queues_load_rooms, pi_Queues_load_rooms, pu_Queues_store_rooms, pi_Queues_store_rooms, pu_Queues_loads, pi_Queues_loads, pu_Queues_stores, pi_Queues_stores] at hO)
local macro_rules | `(tactic| walk_at "mem") => `(tactic| ((repeat (first | exact List.Mem.head _ | apply List.Mem.tail | fail)); done))
local macro_rules | `(tactic| walk_at "setat") => `(tactic| ((repeat (first | (with_reducible exact At.head) | (with_reducible apply At.tail) | (with_reducible apply At.app) | fail)); done))
set_option hygiene false in
local macro_rules | `(tactic| walk_at "dv") => `(tactic| ((repeat' (first | exact Dv.nil | exact Dv.of (by walk_at "mem") | exact Dv.ints _ | exact Dv1.of (by walk_at "mem") | exact Dv1.int _ | exact Dv1.non | exact Dv1.bl _ | exact Dv1.str _ | (with_reducible apply Dv.cons) | refine Dv1.tup (by walk_at "mem") ?_ | refine Dv1.lst (by walk_at "mem") ?_ | (with_reducible apply Dv.app) | fail)); done))
local macro_rules | `(tactic| walk_at "ft") => `(tactic| (first | (with_reducible exact Ft.refl) | ((with_reducible apply Ft.toL); focus walk_at "dv") | ((with_reducible apply Ft.toS); focus assumption) | (with_reducible apply Ft.lst) | (with_reducible apply Ft.Le) | (with_reducible apply Ft.dK) | (with_reducible apply Ft.De) | (with_reducible apply Ft.ins) | (with_reducible apply Ft.toL) | (with_reducible apply Ft.toS) | (with_reducible apply Ft.toD) | fail))
local macro_rules | `(tactic| walk_at "sbL") => `(tactic| repeat' (first | (with_reducible exact Sb.refl _) | exact Sb.nil | (with_reducible apply Sb.cons) | (with_reducible apply Sb.app) | (with_reducible exact Pk.one) | (with_reducible exact Pk.here) | (with_reducible exact Pk.all) | (with_reducible apply Pk.skip1) | (with_reducible apply Pk.skipB) | (with_reducible apply Sb.skip) | (with_reducible apply Sb.skipB) | ((with_reducible show Ft _ _ _ _); walk_at "ft") | ((with_reducible show (_ : List _) = _); (first | rfl | (simp [List.map_set, List.map_append]; done) | fail)) | fail))
local macro_rules | `(tactic| walk_at "sb") => `(tactic| ((walk_at "sbL"); done))
local macro_rules | `(tactic| walk_at "ps") => `(tactic| ((repeat' (first | (with_reducible exact Ps.refl) | exact Ps.nil | (with_reducible apply Ps.cons) | exact List.Mem.head _ | apply List.Mem.tail | (with_reducible apply Ps.skip) | fail)); done))
set_option hygiene false in
local macro_rules | `(tactic| walk_at "at") => `(tactic| first | assumption | exact Own.raw hO (by walk_at "mem") | exact Own.ptup hO (by walk_at "mem") | exact Own.plst hO (by walk_at "mem") | fail)
set_option hygiene false in
local macro_rules | `(tactic| walk_at "st") => `(tactic| (rw [upd_mkO hO]; generalize e : updX _ _ _ = H1; (first | ((apply Own.cset hO e); (focus walk_at "setat"); (try clear hO e); intro hO) | ((apply Own.cnewT hO e); (focus assumption); (try clear hO e); intro hO) | ((apply Own.cnew hO e); (focus assumption); (try clear hO e); intro hO) | fail)))
set_option hygiene false in
local macro_rules | `(tactic| walk_at "mk") => `(tactic| (intro p1 p2 f1 f2 f3; rw [upd_mkO hO]; generalize e : upd (updX _ _ _) _ _ = H1; apply Own.cmake hO f1 f2 f3 e; (try clear hO e); intro hO))
set_option hygiene false in
local macro_rules | `(tactic| walk_at "own") => `(tactic| (first | ((apply Own.sub hO); (focus walk_at "sb"); (focus walk_at "ps")) | ((apply Own.sub hF); (focus walk_at "sb"); (focus walk_at "ps")) | fail))
set_option hygiene false in
local macro_rules | `(tactic| walk_at "fin") => `(tactic| (refine Own.sub hO ?_ (by walk_at "ps"); walk_at "sbL"))
set_option hygiene false in
local macro_rules | `(tactic| walk_at "g1") => `(tactic| (first
 | ((with_reducible show (_ : Option HO) = _); walk_at "at")
 | ((with_reducible show (_ : Int) < _); omega) | ((with_reducible show (_ : Int) ≤ _); omega)
 | ((with_reducible show (_ : Nat) < _); (first | assumption | exact Nat.le_of_ble_eq_true rfl | exact size_lt (Nat.le_of_ble_eq_true rfl) | omega | (simp; done) | (simp; omega) | fail))
 | ((with_reducible show (_ : Nat) ≤ _); (first | assumption | exact Nat.le_of_ble_eq_true rfl | exact size_le (Nat.le_of_ble_eq_true rfl) | omega | (simp; done) | (simp; omega) | fail))
 | ((with_reducible show Own _ _ _ _); (first | walk_at "own" | (walk_at "st"; walk_at "own") | fail))
 | ((with_reducible show SqL _ _ _ _); (first | assumption | exact SqL.of (by walk_at "at") | fail))
 | ((with_reducible show SqT _ _ _ _); (first | assumption | exact hO.psq (by walk_at "mem") | exact SqT.of (by walk_at "at") | fail))
  | ((with_reducible show Cls _ _); exact Txt.cl_Queues T) | ((with_reducible show NoAttr _ _ _); exact Txt.n_Queues_load_rooms T) | (with_reducible exact gt_Queues_load_rooms) | ((with_reducible show NoAttr _ _ _); exact Txt.n_Queues_store_rooms T) | (with_reducible exact gt_Queues_store_rooms) | ((with_reducible show NoAttr _ _ _); exact Txt.n_Queues_loads T) | (with_reducible exact gt_Queues_loads) | ((with_reducible show NoAttr _ _ _); exact Txt.n_Queues_stores T) | (with_reducible exact gt_Queues_stores)  | ((with_reducible show V.ref _ = V.ref _); (first | rfl | fail))
 | ((with_reducible show DGet _ _ _ _); (first | exact DGet.ki (by walk_at "at") (by assumption) | exact DGet.kiF (by walk_at "at") (by assumption) | fail))
 | ((with_reducible show DPut _ _ _ _ _); exact DPut.ki (by walk_at "at") (by assumption))
 | ((with_reducible show Rd _ _ _); (first | exact Or.inl (by walk_at "at") | exact Or.inr ⟨_, by walk_at "at"⟩ | fail))
 | ((with_reducible show (∃ _ : List (Key × V), _) ∨ _); refine Or.inl ⟨_, by walk_at "at", ?_⟩)
 | ((with_reducible show Dv _ _ _ _); focus walk_at "dv") | ((with_reducible show Dv1 _ _ _ _); focus walk_at "dv")
 | ((with_reducible show IsD _ _); exact Or.inl ⟨_, Or.inl (by walk_at "at")⟩)
 | ((with_reducible show V.int _ = kV _); exact kV_int)
 | ((with_reducible show Option.isSome _ = true); (first | exact isSome_ofV (by assumption) | assumption | fail))
 | ((with_reducible show SqL _ _ _ _ ∨ SqT _ _ _ _); (first | exact Or.inl (by assumption) | exact Or.inr (by assumption) | exact Or.inl (SqL.of (by walk_at "at")) | exact Or.inr (SqT.of (by walk_at "at")) | fail))
 | ((with_reducible show Dp _ _ _ _); (first | assumption | exact hO.dpL (by walk_at "mem") | exact .lst (SqL.of (by walk_at "at")) (hO.all (by walk_at "dv")) | exact hO.one (by walk_at "dv") | fail))
 | ((with_reducible show TruV _ _ _ _); (first | exact Or.inl ⟨_, SqL.of (by walk_at "at"), rfl⟩ | exact Or.inr (Or.inr ⟨_, by walk_at "at", rfl⟩) | exact Or.inr (Or.inl ⟨_, SqT.of (by walk_at "at"), rfl⟩) | fail))
 | ((with_reducible show RgOk _ _); exact RgOk.of_le (by omega) (by omega) (by omega) (by omega))
 | rfl | (with_reducible assumption) | apply And.intro | apply Exists.intro | refine iteT ?_ | refine iteF ?_
 | (walk_at "st"; (try walk_at "fl"))
 | ((with_reducible show ∀ _ : Addr, _ = none → _); (fail_if_success (with_reducible show ∀ _ : Addr, _ = none → ∃ _ : Nat → Nat → Hp → Prop, _)); intro p fp; walk_at "st")
 | (refine Or.inl ⟨SqL.of (by walk_at "at"), ?_⟩) | (refine Or.inr ⟨SqT.of (by walk_at "at"), ?_⟩) | exact Or.inl ⟨_, by walk_at "at", rfl⟩ | exact Or.inl ⟨rfl, _, SqL.of (by walk_at "at")⟩ | exact tyl_of (by walk_at "at") | exact Or.inl (SqL.of (by walk_at "at")) | exact Or.inr (SqT.of (by walk_at "at")) | exact Or.inl (by walk_at "at") | exact size_le (Nat.le_of_ble_eq_true rfl) | exact Nat.le_of_ble_eq_true rfl | exact True.intro | exact Or.inl rfl | exact Or.inr rfl | (show (_ : Prop); assumption) | (show (_ : Prop); omega) | (show (_ : Prop); dsimp only; omega) | exact mulw64 (by omega) (by omega) | exact mulw64 (by (try dsimp only); omega) (by (try dsimp only); omega) | fail))
local macro_rules | `(tactic| walk_at "go") => `(tactic| repeat walk_at "g1")

section
variable {P : Program} {w : World} {K : PySem.W.Frag} {mg : Str → Option Value} {base : Heap}
structure Iv (a b nx : Int) (ls ss : List QR) : Prop where
  al : (qkeys ls).Pairwise (· < ·)
  as : (qkeys ss).Pairwise (· < ·)
  dj : ∀ z ∈ qkeys ls, z ∉ qkeys ss
  lo : ∀ z ∈ qkeys ls ++ qkeys ss, 0 ≤ z ∧ z < nx
  la : (ls.length : Int) ≤ a
  sb : (ss.length : Int) ≤ b
  ra : 1 ≤ a ∧ a ≤ 8
  rb : 1 ≤ b ∧ b ≤ 8
  nl : ∀ r ∈ ls, r.2.1 = none → r.2.2 = none
  ns : ∀ r ∈ ss, r.2.1 = none → r.2.2 = none
theorem asc_nodup {zs : List Int} (h : zs.Pairwise (· < ·)) : zs.Nodup := h.imp fun h => Int.ne_of_lt h
theorem Iv.ndl {a b nx : Int} {ls ss : List QR} (h : Iv a b nx ls ss) : (qkeys ls).Nodup := asc_nodup h.al
theorem Iv.nds {a b nx : Int} {ls ss : List QR} (h : Iv a b nx ls ss) : (qkeys ss).Nodup := asc_nodup h.as
theorem qk_sub {rs : List QR} {p : QR → Bool} : (qkeys (rs.filter p)).Sublist (qkeys rs) := List.filter_sublist.map _
theorem Iv.filter {a b nx : Int} {ls ss : List QR} (h : Iv a b nx ls ss) (p : QR → Bool) (nx' : Int) (hx : nx ≤ nx') : Iv a b nx' (ls.filter p) (ss.filter p) := by
  have l1 := List.length_filter_le p ls
  have l2 := List.length_filter_le p ss
  have la := h.la
  have sb := h.sb
  refine ⟨h.al.sublist qk_sub, h.as.sublist qk_sub, fun z hz hz2 => h.dj z (qk_sub.subset hz) (qk_sub.subset hz2), fun z hz => ?_, by omega, by omega, h.ra, h.rb, fun r hr => h.nl r (List.mem_filter.mp hr).1, fun r hr => h.ns r (List.mem_filter.mp hr).1⟩
  have := h.lo z (by
    rcases List.mem_append.mp hz with m | m
    · exact List.mem_append_left _ (qk_sub.subset m)
    · exact List.mem_append_right _ (qk_sub.subset m))
  omega
theorem setW_keys (rs : List QR) (n : Int) (oa ob : Option Int) : qkeys (setW rs n oa ob) = qkeys rs := by
  rw [qkeys, setW, List.map_map]
  refine List.map_congr_left fun r _ => ?_
  simp only [Function.comp]
  split
  · rename_i h; exact h.symm
  · rfl
theorem setW_none {rs : List QR} {n p : Int} {ob : Option Int} (h : ∀ r ∈ rs, r.2.1 = none → r.2.2 = none) : ∀ r ∈ setW rs n (some p) ob, r.2.1 = none → r.2.2 = none := fun r hr e => by
  obtain ⟨q, hq, rfl⟩ := List.mem_map.mp hr
  by_cases z : q.1 = n
  · rw [if_pos z] at e; simp at e
  · rw [if_neg z] at e ⊢; exact h q hq e
theorem Iv.setl {a b nx : Int} {ls ss : List QR} (h : Iv a b nx ls ss) (n p : Int) (ob : Option Int) (nx' : Int) (hx : nx ≤ nx') : Iv a b nx' (setW ls n (some p) ob) ss := by
  refine ⟨by rw [setW_keys]; exact h.al, h.as, by rw [setW_keys]; exact h.dj, fun z hz => ?_, by rw [setW_len]; exact h.la, h.sb, h.ra, h.rb, setW_none h.nl, h.ns⟩
  rw [setW_keys] at hz
  have := h.lo z hz
  omega
theorem Iv.sets {a b nx : Int} {ls ss : List QR} (h : Iv a b nx ls ss) (n p : Int) (ob : Option Int) (nx' : Int) (hx : nx ≤ nx') : Iv a b nx' ls (setW ss n (some p) ob) := by
  refine ⟨h.al, by rw [setW_keys]; exact h.as, by rw [setW_keys]; exact h.dj, fun z hz => ?_, h.la, by rw [setW_len]; exact h.sb, h.ra, h.rb, h.nl, setW_none h.ns⟩
  rw [setW_keys] at hz
  have := h.lo z hz
  omega
theorem Iv.up {a b nx : Int} {ls ss : List QR} (h : Iv a b nx ls ss) (nx' : Int) (hx : nx ≤ nx') : Iv a b nx' ls ss :=
  ⟨h.al, h.as, h.dj, fun z hz => by have := h.lo z hz; omega, h.la, h.sb, h.ra, h.rb, h.nl, h.ns⟩
theorem asc_snoc {zs : List Int} {n : Int} (h : zs.Pairwise (· < ·)) (hn : ∀ z ∈ zs, z < n) : (zs ++ [n]).Pairwise (· < ·) :=
  List.pairwise_append.mpr ⟨h, List.pairwise_singleton _ _, fun x hx y hy => by simp at hy; subst hy; exact hn x hx⟩
theorem qk_snoc (rs : List QR) (r : QR) : qkeys (rs ++ [r]) = qkeys rs ++ [r.1] := by rw [qkeys, List.map_append]; rfl
theorem Iv.addl {a b nx : Int} {ls ss : List QR} (h : Iv a b nx ls ss) (h0 : 0 ≤ nx) (hr : (ls.length : Int) < a) : Iv a b (nx + 1) (ls ++ [(nx, none, none)]) ss := by
  have lt1 : ∀ z ∈ qkeys ls, z < nx := fun z hz => (h.lo z (List.mem_append_left _ hz)).2
  have lt2 : ∀ z ∈ qkeys ss, z < nx := fun z hz => (h.lo z (List.mem_append_right _ hz)).2
  refine ⟨by rw [qk_snoc]; exact asc_snoc h.al lt1, h.as, fun z hz hz2 => ?_, fun z hz => ?_, by simp; omega, h.sb, h.ra, h.rb, fun r hr => ?_, h.ns⟩
  · rw [qk_snoc] at hz
    rcases List.mem_append.mp hz with m | m
    · exact h.dj z m hz2
    · simp at m; have := lt2 z hz2; omega
  · rw [qk_snoc] at hz
    rcases List.mem_append.mp hz with m | m
    · rcases List.mem_append.mp m with m | m
      · have := h.lo z (List.mem_append_left _ m); omega
      · simp at m; omega
    · have := h.lo z (List.mem_append_right _ m); omega
  · rcases List.mem_append.mp hr with m | m
    · exact h.nl r m
    · simp at m; subst m; exact fun _ => rfl
theorem Iv.adds {a b nx : Int} {ls ss : List QR} (h : Iv a b nx ls ss) (h0 : 0 ≤ nx) (hr : (ss.length : Int) < b) : Iv a b (nx + 1) ls (ss ++ [(nx, none, none)]) := by
  have lt1 : ∀ z ∈ qkeys ls, z < nx := fun z hz => (h.lo z (List.mem_append_left _ hz)).2
  have lt2 : ∀ z ∈ qkeys ss, z < nx := fun z hz => (h.lo z (List.mem_append_right _ hz)).2
  refine ⟨h.al, by rw [qk_snoc]; exact asc_snoc h.as lt2, fun z hz hz2 => ?_, fun z hz => ?_, h.la, by simp; omega, h.ra, h.rb, h.nl, fun r hr => ?_⟩
  · rw [qk_snoc] at hz2
    rcases List.mem_append.mp hz2 with m | m
    · exact h.dj z hz m
    · simp at m; have := lt1 z hz; omega
  · rw [qk_snoc, ← List.append_assoc] at hz
    rcases List.mem_append.mp hz with m | m
    · have := h.lo z m; omega
    · simp at m; omega
  · rcases List.mem_append.mp hr with m | m
    · exact h.ns r m
    · simp at m; subst m; exact fun _ => rfl
/-- where rows wait -/
def wts (rs : List QR) : List Int := (rs.zipIdx.filter fun z => decide (z.1.2.1 = none)).map fun z => (z.2 : Int)
theorem sh_cat (rs qs : List QR) : SeqAt.shaped (.list (rs.map rD ++ qs.map rD)) = true := by rw [← List.map_append]; exact sh_rows _
theorem sh_nil : SeqAt.shaped (.list []) = true := by decide
theorem eqv_nil (ds : List PyData) : PyData.eqv (.list ds) (.list []) = decide (ds = []) := by cases ds <;> simp [PyData.eqv, PyData.eqvAll]
theorem src_mem (v : Int) (ow : Option Int) : PyData.eqv (srcD (some (v, ow))) (.tuple [.str "memory"]) = false := by simp [srcD, PyData.eqv, PyData.eqvAll]
theorem opnS {K : PySem.W.Frag} {H : Hp} {L : List (Addr × Ob)} {P : List Pf} {v : V} {n : Int} {ow : Option Int} (h : Own K H L P) (x : Dv1 K P v (srcD (some (n, ow)))) : ∃ t, v = .ref t ∧ Own K H L (.sq t [.str "store", .int n, oV ow] :: P) := by
  obtain ⟨t, e, h2⟩ := h.opn x (by cases ow <;> rfl)
  refine ⟨t, e, ?_⟩
  have e2 : [PyData.str "store", .int n, oD ow].map fv = [.str "store", .int n, oV ow] := by rw [List.map_cons, List.map_cons, List.map_cons, fv_oD]; rfl
  rw [← e2]; exact h2
theorem srcOf_some {ss : List QR} {n p v : Int} {ow : Option Int} (h : srcOf ss n p = some (v, ow)) : v < n ∧ (v, some p, ow) ∈ ss := by
  obtain ⟨r, hr, e⟩ := Option.map_eq_some_iff.mp h
  have hm := List.mem_filter.mp (List.mem_of_getLast? hr)
  obtain ⟨m, oa, ob⟩ := r
  obtain ⟨rfl, rfl⟩ := Prod.mk.inj e
  have h2 := hm.2
  simp only [Bool.and_eq_true, decide_eq_true_eq] at h2
  obtain ⟨h3, rfl⟩ := h2
  exact ⟨h3, hm.1⟩
theorem scal_oV (a b : Option Int) : scal (oV a) (oV b) = true := by cases a <;> cases b <;> rfl
theorem wts_len (rs : List QR) : (wts rs).length ≤ rs.length := by
  rw [wts, List.length_map]
  exact Nat.le_trans (List.length_filter_le _ _) (by rw [List.length_zipIdx]; exact Nat.le_refl _)
theorem wts_mem {rs : List QR} {z : Int} (h : z ∈ wts rs) : ∃ (j : Nat) (r : QR), rs[j]? = some r ∧ r.2.1 = none ∧ z = (j : Int) := by
  obtain ⟨q, hq, rfl⟩ := List.mem_map.mp h
  obtain ⟨h1, h2⟩ := List.mem_filter.mp hq
  obtain ⟨j, hj, e⟩ := List.getElem_of_mem h1
  have e2 : rs.zipIdx[j]? = some q := by rw [List.getElem?_eq_getElem hj, e]
  rw [List.getElem?_zipIdx] at e2
  obtain ⟨r, hr, rfl⟩ := Option.map_eq_some_iff.mp e2
  exact ⟨0 + j, r, by rw [Nat.zero_add]; exact hr, of_decide_eq_true h2, rfl⟩
theorem setW_at {rs : List QR} (nd : (qkeys rs).Nodup) {j : Nat} {n : Int} {x y oa ob : Option Int} (h : rs[j]? = some (n, x, y)) : setW rs n oa ob = rs.set j (n, oa, ob) := by
  induction rs generalizing j with
  | nil => simp at h
  | cons q rs ih =>
    rw [qkeys, List.map_cons, List.nodup_cons] at nd
    cases j with
    | zero =>
      obtain rfl : q = (n, x, y) := by simpa using h
      rw [setW, List.map_cons, if_pos rfl, List.set_cons_zero]
      congr 1
      refine (List.map_congr_left fun r hr => ?_).trans (List.map_id _)
      rw [if_neg (fun z => nd.1 (List.mem_map.mpr ⟨r, hr, z⟩))]; rfl
    | succ j =>
      have h2 : rs[j]? = some (n, x, y) := by simpa using h
      rw [setW, List.map_cons, List.set_cons_succ, if_neg (fun z => nd.1 (List.mem_map.mpr ⟨_, List.mem_of_getElem? h2, z.symm⟩))]
      congr 1
      exact ih nd.2 h2
theorem dp_set {K : PySem.W.Frag} {M : Hp} {v : V} {d : PyData} : ∀ {vs : List V} {ds : List PyData} (j : Nat), DpAll K M vs ds → Dp K M v d → DpAll K M (vs.set j v) (ds.set j d)
  | [], _, j, h, _ => by cases h; exact .nil
  | _ :: _, _, 0, h, x => by cases h with | cons a b => exact .cons x b
  | _ :: _, _, j + 1, h, x => by cases h with | cons a b => exact .cons a (dp_set j b x)
theorem Dv.setAt {K : PySem.W.Frag} {P : List Pf} {vs : List V} {ds : List PyData} {v : V} {d : PyData} (h : Dv K P vs ds) (j : Nat) (x : Dv1 K P v d) : Dv K P (vs.set j v) (ds.set j d) := fun M q => dp_set j (h M q) (x M q)
theorem ixR {n i : Nat} (h : i < n) : ixN n (i : Int) = some i := by
  unfold ixN
  rw [if_pos (by omega), if_pos (by omega), Int.toNat_natCast]
def sp_Ldeed (K : PySem.W.Frag) (C : Addr) : Sp := fun vs H Q _ => ∃ (pa x dx l s : Addr) (a b nx : Int) (ls ss : List QR) (rm dl ds : Addr) (R : List (Addr × Ob)) (P : List Pf), vs = [.ref pa, .ref x, .ref rm, .ref dl, .ref ds, .int nx] ∧ Own K H (pt pa ++ (qu C x dx l s a b ls ss ++ ((dl, .L (ls.map rD)) :: (ds, .L (ss.map rD)) :: R))) P ∧ Pf.tup rm [.int a, .int b] ∈ P ∧ 0 ≤ nx ∧ Iv a b nx ls ss ∧
  ∀ (l' s' : Addr) (ls' ss' : List QR) (H' : Hp) (P' : List Pf), Ps P P' → Iv a b (nx + 1) ls' ss' → Own K H' (pt pa ++ (qu C x dx l' s' a b ls' ss' ++ ((dl, .L (ls'.map rD)) :: (ds, .L (ss'.map rD)) :: R))) P' → Q (.bl true) H'
theorem ok_Ldeed (T : Txt K mg) : FnOk P w K mg base CX0 6 T.f_Ldeed T.fd_Ldeed ["_law_pot_here", "_law_queues", "_law_rooms", "_law_loads", "_law_stores", "_law_next_one"] (sp_Ldeed K T.C_Queues) := by
  have G_Ldraw := ok_Ldraw (P := P) (w := w) (base := base) T
  have G_Lpick := ok_Lpick (P := P) (w := w) (base := base) T
  have G_Queues_dropped := ok_Queues_dropped (P := P) (w := w) (base := base) T
  have G_Queues_leave := ok_Queues_leave (P := P) (w := w) (base := base) T
  have G_Queues_known := ok_Queues_known (P := P) (w := w) (base := base) T
  have G_Learly := ok_Learly (P := P) (w := w) (base := base) T
  have G_Lsource := ok_Lsource (P := P) (w := w) (base := base) T
  have G_Queues_read := ok_Queues_read (P := P) (w := w) (base := base) T
  have G_Queues_load_entered := ok_Queues_load_entered (P := P) (w := w) (base := base) T
  have G_Queues_store_entered := ok_Queues_store_entered (P := P) (w := w) (base := base) T
  refine T.F_Ldeed.ok sc_Ldeed (fun vs H Q E h => ?_) (fun cdv A outer s H vs Q E hr h => ?_)
  · obtain ⟨pa, x, dx, l, s, a, b, nx, ls, ss, rm, dl, ds, R, P, rfl, hO, hrm, hn0, hI, k⟩ := h; rfl
  · obtain ⟨pa, x, dx, l, s, a, b, nx, ls, ss, rm, dl, ds, R, P, rfl, hO, hrm, hn0, hI, k⟩ := h
    refine ⟨_, (pss_cons (ps_par (i := 6) (j := 7) rfl sc_Ldeed.nd rfl rfl (by decide) rfl rfl (pa_cons (pe_call G_Ldraw (hr.mono (by decide)) rfl T.g_Ldraw T.F_Ldraw.kp T.b_Ldraw .nil pass0 (pa_cons (pv 0) (pa_cons pe_int pa_nil))) (pa_cons (pe_call G_Lpick (hr.mono (by decide)) rfl T.g_Lpick T.F_Lpick.kp T.b_Lpick .nil pass0 (pa_cons (pv 0) (pa_cons (pe_lst (pa_cons pe_int (pa_cons pe_int (pa_cons pe_int pa_nil)))) pa_nil))) pa_nil)) (by rfl))
        (pss_cons (ps_setLc (i := 9) (own := [("_law_at", 8), ("_law_row", 18)]) (g := gTup _ 2 (gCons (gName 8) (gCons (gName 18) gNil))) (tt := (tTest (tOp (fun x y H Q => y = V.non ∧ Q (V.bl (decide (x = V.non))) H) (tOp (rIxT K) (tVar 18) (tC (.int 1))) (tC .non)))) rfl sc_Ldeed.nd rfl rfl (sw_true rfl rfl rfl (by decide +kernel)) (pi_enum rfl T.m_enumerate (pa_cons (pv 3) pa_nil)) (blkOk_by (N := ["_law_pot_here", "_law_queues", "_law_rooms", "_law_loads", "_law_stores", "_law_next_one", "_law_way", "_law_place", "_law_at", "_law_waiting", "_law_unknown", "_law_numbers", "_law_least", "_law_oldest", "_law_word", "_law_number", "_law_found", "_law_source_here", "_law_row"]) (sc := defScope s_Ldeed) (by decide +kernel)) (fun _ _ _ _ _ => pg_pair (i := 8) (j := 18) rfl sc_Ldeed.nd rfl rfl (Or.inl rfl) (Or.inl rfl)) (fun _ _ _ _ _ => pts_one (pt_cmpR op_isN (pe_ix ix_tup (pv 18) pe_int (fun _ _ => rfl)) pe_non (nomark _))) (fun _ _ _ _ _ => (pv 8)))
        (pss_cons (ps_setLc (i := 10) (own := [("_law_at", 8), ("_law_row", 18)]) (g := gTup _ 2 (gCons (gName 8) (gCons (gName 18) gNil))) (tt := (tTest (tOp (fun x y H Q => y = V.non ∧ Q (V.bl (decide (x = V.non))) H) (tOp (rIxT K) (tVar 18) (tC (.int 1))) (tC .non)))) rfl sc_Ldeed.nd rfl rfl (sw_true rfl rfl rfl (by decide +kernel)) (pi_enum rfl T.m_enumerate (pa_cons (pv 4) pa_nil)) (blkOk_by (N := ["_law_pot_here", "_law_queues", "_law_rooms", "_law_loads", "_law_stores", "_law_next_one", "_law_way", "_law_place", "_law_at", "_law_waiting", "_law_unknown", "_law_numbers", "_law_least", "_law_oldest", "_law_word", "_law_number", "_law_found", "_law_source_here", "_law_row"]) (sc := defScope s_Ldeed) (by decide +kernel)) (fun _ _ _ _ _ => pg_pair (i := 8) (j := 18) rfl sc_Ldeed.nd rfl rfl (Or.inl rfl) (Or.inl rfl)) (fun _ _ _ _ _ => pts_one (pt_cmpR op_isN (pe_ix ix_tup (pv 18) pe_int (fun _ _ => rfl)) pe_non (nomark _))) (fun _ _ _ _ _ => (pv 8)))
        (pss_cons (ps_if (pt_mid (PW.pt (pw_and (pt_cmpR op_eq (pv 6) pe_int (nomark _)) (pw_and1 (pt_cmpR (op_neD hr.units) (pe_op op_cat (pv 3) (pv 4)) (pe_lst pa_nil) (nomark _))))))
          (pss_cons (ps_set (i := 11) sc_Ldeed.nd rfl (Or.inl rfl) (pe_callB cr_sortedI (by rfl) T.m_sorted (by decide +kernel) (pa_cons (pe_lc (own := [("_law_row", 18)]) (g := gName 18) (te := (tOp (rIxT K) (tVar 18) (tC (.int 0)))) (tt := tYes) rfl sc_Ldeed.nd (pi_list (pe_op op_cat (pv 3) (pv 4))) (blkOk_by (N := ["_law_pot_here", "_law_queues", "_law_rooms", "_law_loads", "_law_stores", "_law_next_one", "_law_way", "_law_place", "_law_at", "_law_waiting", "_law_unknown", "_law_numbers", "_law_least", "_law_oldest", "_law_word", "_law_number", "_law_found", "_law_source_here", "_law_row"]) (sc := defScope s_Ldeed) (by decide +kernel)) (fun _ _ _ _ _ => pg_name (i := 18) sc_Ldeed.nd rfl (Or.inl rfl)) (fun _ _ _ _ _ => pts_nil) (fun _ _ _ _ _ => (pe_ix ix_tup (pv 18) pe_int (fun _ _ => rfl)))) pa_nil)))
          (pss_cons (ps_set (i := 12) sc_Ldeed.nd rfl (Or.inr rfl) (pe_op op_add (pe_call G_Lpick (hr.mono (by decide)) rfl T.g_Lpick T.F_Lpick.kp T.b_Lpick .nil pass0 (pa_cons (pv 0) (pa_cons (pv 11) pa_nil))) (pe_call G_Ldraw (hr.mono (by decide)) rfl T.g_Ldraw T.F_Ldraw.kp T.b_Ldraw .nil pass0 (pa_cons (pv 0) (pa_cons pe_int pa_nil)))))
          (pss_cons (ps_asg (pe_lc (own := [("_law_row", 18)]) (g := gName 18) (tt := (tTest (tOp (rI0 fun i j => .bl (decide (i < j))) (tOp (rIxT K) (tVar 18) (tC (.int 0))) (tVar 12)))) rfl sc_Ldeed.nd (pi_list (pv 3)) (blkOk_by (N := ["_law_pot_here", "_law_queues", "_law_rooms", "_law_loads", "_law_stores", "_law_next_one", "_law_way", "_law_place", "_law_at", "_law_waiting", "_law_unknown", "_law_numbers", "_law_least", "_law_oldest", "_law_word", "_law_number", "_law_found", "_law_source_here", "_law_row"]) (sc := defScope s_Ldeed) (by decide +kernel)) (fun _ _ _ _ _ => pg_name (i := 18) sc_Ldeed.nd rfl (Or.inl rfl)) (fun _ _ _ _ _ => pts_one (pt_cmpR op_lt (pe_ix ix_tup (pv 18) pe_int (fun _ _ => rfl)) (pv 12) (nomark _))) (fun _ _ _ _ _ => (pv 18))) (pg_slAll (pv 3)))
          (pss_cons (ps_asg (pe_lc (own := [("_law_row", 18)]) (g := gName 18) (tt := (tTest (tOp (rI0 fun i j => .bl (decide (i < j))) (tOp (rIxT K) (tVar 18) (tC (.int 0))) (tVar 12)))) rfl sc_Ldeed.nd (pi_list (pv 4)) (blkOk_by (N := ["_law_pot_here", "_law_queues", "_law_rooms", "_law_loads", "_law_stores", "_law_next_one", "_law_way", "_law_place", "_law_at", "_law_waiting", "_law_unknown", "_law_numbers", "_law_least", "_law_oldest", "_law_word", "_law_number", "_law_found", "_law_source_here", "_law_row"]) (sc := defScope s_Ldeed) (by decide +kernel)) (fun _ _ _ _ _ => pg_name (i := 18) sc_Ldeed.nd rfl (Or.inl rfl)) (fun _ _ _ _ _ => pts_one (pt_cmpR op_lt (pe_ix ix_tup (pv 18) pe_int (fun _ _ => rfl)) (pv 12) (nomark _))) (fun _ _ _ _ _ => (pv 18))) (pg_slAll (pv 4)))
          (pss_one (ps_ret (pe_cmpR op_isN (pe_methKA (pv 1) T.cl_Queues T.me_Queues_dropped G_Queues_dropped (hr.mono (by decide)) T.kb_Queues_dropped pass0 (pk_cons (pv 12) pk_nil)) pe_non (nomark _))))))))
          pss_nil)
        (pss_cons (ps_if (pt_mid (PW.pt (pw_and (pt_cmpR op_eq (pv 6) pe_int (nomark _)) (pw_and1 (pt_cmpR (op_neD hr.units) (pe_op op_cat (pv 3) (pv 4)) (pe_lst pa_nil) (nomark _))))))
          (pss_cons (ps_set (i := 13) sc_Ldeed.nd rfl (Or.inr rfl) (pe_callB (cr_min rfl) (by rfl) T.m_min (by decide +kernel) (pa_cons (pe_lc (own := [("_law_row", 18)]) (g := gName 18) (te := (tOp (rIxT K) (tVar 18) (tC (.int 0)))) (tt := tYes) rfl sc_Ldeed.nd (pi_list (pe_op op_cat (pv 3) (pv 4))) (blkOk_by (N := ["_law_pot_here", "_law_queues", "_law_rooms", "_law_loads", "_law_stores", "_law_next_one", "_law_way", "_law_place", "_law_at", "_law_waiting", "_law_unknown", "_law_numbers", "_law_least", "_law_oldest", "_law_word", "_law_number", "_law_found", "_law_source_here", "_law_row"]) (sc := defScope s_Ldeed) (by decide +kernel)) (fun _ _ _ _ _ => pg_name (i := 18) sc_Ldeed.nd rfl (Or.inl rfl)) (fun _ _ _ _ _ => pts_nil) (fun _ _ _ _ _ => (pe_ix ix_tup (pv 18) pe_int (fun _ _ => rfl)))) pa_nil)))
          (pss_cons (ps_asg (pe_lc (own := [("_law_row", 18)]) (g := gName 18) (tt := (tTest (tOp rNe (tOp (rIxT K) (tVar 18) (tC (.int 0))) (tVar 13)))) rfl sc_Ldeed.nd (pi_list (pv 3)) (blkOk_by (N := ["_law_pot_here", "_law_queues", "_law_rooms", "_law_loads", "_law_stores", "_law_next_one", "_law_way", "_law_place", "_law_at", "_law_waiting", "_law_unknown", "_law_numbers", "_law_least", "_law_oldest", "_law_word", "_law_number", "_law_found", "_law_source_here", "_law_row"]) (sc := defScope s_Ldeed) (by decide +kernel)) (fun _ _ _ _ _ => pg_name (i := 18) sc_Ldeed.nd rfl (Or.inl rfl)) (fun _ _ _ _ _ => pts_one (pt_cmpR op_ne (pe_ix ix_tup (pv 18) pe_int (fun _ _ => rfl)) (pv 13) (nomark _))) (fun _ _ _ _ _ => (pv 18))) (pg_slAll (pv 3)))
          (pss_cons (ps_asg (pe_lc (own := [("_law_row", 18)]) (g := gName 18) (tt := (tTest (tOp rNe (tOp (rIxT K) (tVar 18) (tC (.int 0))) (tVar 13)))) rfl sc_Ldeed.nd (pi_list (pv 4)) (blkOk_by (N := ["_law_pot_here", "_law_queues", "_law_rooms", "_law_loads", "_law_stores", "_law_next_one", "_law_way", "_law_place", "_law_at", "_law_waiting", "_law_unknown", "_law_numbers", "_law_least", "_law_oldest", "_law_word", "_law_number", "_law_found", "_law_source_here", "_law_row"]) (sc := defScope s_Ldeed) (by decide +kernel)) (fun _ _ _ _ _ => pg_name (i := 18) sc_Ldeed.nd rfl (Or.inl rfl)) (fun _ _ _ _ _ => pts_one (pt_cmpR op_ne (pe_ix ix_tup (pv 18) pe_int (fun _ _ => rfl)) (pv 13) (nomark _))) (fun _ _ _ _ _ => (pv 18))) (pg_slAll (pv 4)))
          (pss_one (ps_ret (pe_cmpR op_isN (pe_meth (pv 1) T.cl_Queues T.me_Queues_leave G_Queues_leave (hr.mono (by decide)) T.b_Queues_leave .nil pass0 (pa_cons (pv 13) pa_nil)) pe_non (nomark _)))))))
          pss_nil)
        (pss_cons (ps_if (pt_mid (PW.pt (pw_and (pt_cmpR op_inL (pv 6) (pe_lst (pa_cons pe_int (pa_cons pe_int pa_nil))) (by rfl)) (pw_and1 (pt_cmpR (op_neD hr.units) (pv 10) (pe_lst pa_nil) (nomark _))))))
          (pss_cons (ps_par (i := 8) (j := 14) rfl sc_Ldeed.nd rfl rfl (by decide) rfl rfl (pa_cons (pe_call G_Lpick (hr.mono (by decide)) rfl T.g_Lpick T.F_Lpick.kp T.b_Lpick .nil pass0 (pa_cons (pv 0) (pa_cons (pv 10) pa_nil))) (pa_cons (pe_call G_Ldraw (hr.mono (by decide)) rfl T.g_Ldraw T.F_Ldraw.kp T.b_Ldraw .nil pass0 (pa_cons (pv 0) (pa_cons pe_int pa_nil))) pa_nil)) (by rfl))
          (pss_cons (ps_set (i := 15) sc_Ldeed.nd rfl (Or.inl rfl) (pe_ix ix_tup (pe_ix ix_list (pv 4) (pv 8) (fun _ _ => rfl)) pe_int (fun _ _ => rfl)))
          (pss_cons (ps_asg (pe_tup (pa_cons (pv 15) (pa_cons (pv 7) (pa_cons (pv 14) pa_nil)))) (pg_sub (pv 4) (pv 8) set_list))
          (pss_one (ps_ret (pe_cmpR op_eq (pe_meth (pv 1) T.cl_Queues T.me_Queues_known G_Queues_known (hr.mono (by decide)) T.b_Queues_known .nil pass0 (pa_cons (pv 15) (pa_cons (pv 7) (pa_cons (pv 14) pa_nil)))) (pe_call G_Learly (hr.mono (by decide)) rfl T.g_Learly T.F_Learly.kp T.b_Learly .nil pass0 (pa_cons (pv 3) (pa_cons (pv 15) (pa_cons (pv 7) pa_nil)))) (nomark _)))))))
          pss_nil)
        (pss_cons (ps_if (pt_mid (PW.pt (pw_and (pt_cmpR op_inL (pv 6) (pe_lst (pa_cons pe_int (pa_cons pe_int pa_nil))) (by rfl)) (pw_and1 (pt_cmpR (op_neD hr.units) (pv 9) (pe_lst pa_nil) (nomark _))))))
          (pss_cons (ps_set (i := 8) sc_Ldeed.nd rfl (Or.inl rfl) (pe_call G_Lpick (hr.mono (by decide)) rfl T.g_Lpick T.F_Lpick.kp T.b_Lpick .nil pass0 (pa_cons (pv 0) (pa_cons (pv 9) pa_nil))))
          (pss_cons (ps_set (i := 15) sc_Ldeed.nd rfl (Or.inl rfl) (pe_ix ix_tup (pe_ix ix_list (pv 3) (pv 8) (fun _ _ => rfl)) pe_int (fun _ _ => rfl)))
          (pss_cons (ps_set (i := 16) sc_Ldeed.nd rfl (Or.inl rfl) (pe_call G_Lsource (hr.mono (by decide)) rfl T.g_Lsource T.F_Lsource.kp T.b_Lsource .nil pass0 (pa_cons (pv 4) (pa_cons (pv 15) (pa_cons (pv 7) pa_nil)))))
          (pss_cons (ps_set (i := 17) sc_Ldeed.nd rfl (Or.inl rfl) (pe_mid (pe_ifExp (PW.pt (pw_and (pt_cmpR (op_stop (op_neD hr.units)) (pv 16) (pe_tup (pa_cons pe_str pa_nil)) (nomark _)) (pw_and1 (pt_cmpR op_gt (pe_call G_Ldraw (hr.mono (by decide)) rfl T.g_Ldraw T.F_Ldraw.kp T.b_Ldraw .nil pass0 (pa_cons (pv 0) (pa_cons pe_int pa_nil))) pe_int (nomark _))))) (pe_ix ix_tup (pv 16) pe_int (fun _ _ => rfl)) pe_non)))
          (pss_cons (ps_asg (pe_tup (pa_cons (pv 15) (pa_cons (pv 7) (pa_cons (pv 17) pa_nil)))) (pg_sub (pv 3) (pv 8) set_list))
          (pss_one (ps_ret (pe_cmpR op_isN (pe_meth (pv 1) T.cl_Queues T.me_Queues_read G_Queues_read (hr.mono (by decide)) T.b_Queues_read .nil pass0 (pa_cons (pv 15) (pa_cons (pv 7) (pa_cons (pv 17) pa_nil)))) pe_non (nomark _)))))))))
          pss_nil)
        (pss_cons (ps_if (pt_mid (PW.pt (pw_and (pt_cmpR op_eq (pe_call G_Ldraw (hr.mono (by decide)) rfl T.g_Ldraw T.F_Ldraw.kp T.b_Ldraw .nil pass0 (pa_cons (pv 0) (pa_cons pe_int pa_nil))) pe_int (nomark _)) (pw_and1 (pt_cmpR op_lt (pe_callB call_len_list (by rfl) T.m_len (by decide +kernel) (pa_cons (pv 3) pa_nil)) (pe_ix ix_tup (pv 2) pe_int (fun _ _ => rfl)) (nomark _))))))
          (pss_cons (ps_expr (pe_bm PySem.F.plainAttrs_list PySem.F.slot_list_append PySem.F.type_list_append mt_append (pv 3) (pa_cons (pe_tup (pa_cons (pv 5) (pa_cons pe_non (pa_cons pe_non pa_nil)))) pa_nil)))
          (pss_one (ps_ret (pe_cmpR op_isN (pe_meth (pv 1) T.cl_Queues T.me_Queues_load_entered G_Queues_load_entered (hr.mono (by decide)) T.b_Queues_load_entered .nil pass0 (pa_cons (pv 5) pa_nil)) pe_non (nomark _)))))
          pss_nil)
        (pss_cons (ps_if (pt_cmpR op_lt (pe_callB call_len_list (by rfl) T.m_len (by decide +kernel) (pa_cons (pv 4) pa_nil)) (pe_ix ix_tup (pv 2) pe_int (fun _ _ => rfl)) (nomark _))
          (pss_cons (ps_expr (pe_bm PySem.F.plainAttrs_list PySem.F.slot_list_append PySem.F.type_list_append mt_append (pv 4) (pa_cons (pe_tup (pa_cons (pv 5) (pa_cons pe_non (pa_cons pe_non pa_nil)))) pa_nil)))
          (pss_one (ps_ret (pe_cmpR op_isN (pe_methKA (pv 1) T.cl_Queues T.me_Queues_store_entered G_Queues_store_entered (hr.mono (by decide)) T.kb_Queues_store_entered pass0 (pk_cons (pv 5) pk_nil)) pe_non (nomark _)))))
          pss_nil)
        (pss_one (ps_ret pe_bl))))))))))), ?_⟩
    clear G_Ldraw G_Lpick G_Queues_dropped G_Queues_leave G_Queues_known G_Learly G_Lsource G_Queues_read G_Queues_load_entered G_Queues_store_entered
    clear hr
    have hla := hI.la
    have hsb := hI.sb
    have hra := hI.ra
    have hrb := hI.rb
    walk_at "go"
    intro way H2 w0 w1 hO
    walk_at "go"
    intro iv v H3 hv hO
    obtain ⟨pl, rfl, hpl⟩ : ∃ pl : Int, v = .int pl ∧ 0 ≤ pl ∧ pl < 1024 := by
      have hm := List.mem_of_getElem? hv
      simp only [List.mem_cons, List.not_mem_nil, or_false] at hm
      rcases hm with rfl | rfl | rfl <;> exact ⟨_, rfl, by decide, by decide⟩
    clear hv
    obtain ⟨vl, o1⟩ := hO.openL (a := dl) (by walk_at "mem")
    replace hO := o1 _ (by walk_at "setat")
    clear o1
    have hvl : vl.length = ls.length := by
      have := (hO.pdp List.mem_cons_self).len
      rwa [List.length_map] at this
    obtain ⟨vs, o2⟩ := hO.openL (a := ds) (by walk_at "mem")
    replace hO := o2 _ (by walk_at "setat")
    clear o2
    have hvs : vs.length = ss.length := by
      have := (hO.pdp List.mem_cons_self).len
      rwa [List.length_map] at this
    walk_at "go"
    intro D hD
    refine lc_siftW ls.zipIdx (fun z => V.int (z.2 : Nat)) (fun z => decide (z.1.2.1 = none)) (by rw [List.length_zipIdx, ← hvl]; exact walk_enum) hO hD (by rw [List.length_zipIdx]; omega) (fun H L' P' m t h => SqL.of (h.raw (m _ (by walk_at "mem")))) (fun i z x H9 H' P' ys Qn Qy hz2 hY sp hO kn ky => ?_) (fun H5 P5 sp5 hO => ?_)
    · obtain ⟨T0, u, v, rfl, hT, rfl, e1, e2⟩ := hY
      obtain rfl : V.int (i : Nat) = u := Option.some.inj e1
      rw [List.getElem?_zipIdx] at hz2
      obtain ⟨r, hr, rfl⟩ := Option.map_eq_some_iff.mp hz2
      have e3 : vl[i]? = some v := e2
      replace hO := hO.newT (vs := [.int (i : Nat), v]) hT rfl
      obtain ⟨t, rfl, hO⟩ := opnR hO (r := r) (Dv.get (vs := vl) (ds := ls.map rD) (Dv.of (List.mem_cons_of_mem _ (sp _ (by walk_at "mem")))) e3 (by rw [List.getElem?_map, hr]; rfl))
      obtain ⟨n, oa, ob⟩ := r
      dsimp only at hO kn ky
      generalize upd H9 T0 (.tup [.int (i : Nat), .ref t]) = H3 at hO ⊢
      rw [Nat.zero_add] at kn ky
      rcases oa with _ | oa
      · walk_at "go"
        exact ky rfl _ _ (by walk_at "ps") hO
      · walk_at "go"
        exact kn rfl _ _ (by walk_at "ps") hO
    have ew : ∀ rs : List QR, (rs.zipIdx.filter fun z => decide (z.1.2.1 = none)).map (fun z => V.int (z.2 : Nat)) = (wts rs).map V.int := fun rs => by rw [wts, List.map_map]; rfl
    rw [ew] at hO
    walk_at "go"
    intro D2 hD2
    refine lc_siftW ss.zipIdx (fun z => V.int (z.2 : Nat)) (fun z => decide (z.1.2.1 = none)) (by rw [List.length_zipIdx, ← hvs]; exact walk_enum) hO hD2 (by rw [List.length_zipIdx]; omega) (fun H L' P' m t h => SqL.of (h.raw (m _ (by walk_at "mem")))) (fun i z x H9 H' P' ys Qn Qy hz2 hY sp hO kn ky => ?_) (fun H6 P6 sp6 hO => ?_)
    · obtain ⟨T0, u, v, rfl, hT, rfl, e1, e2⟩ := hY
      obtain rfl : V.int (i : Nat) = u := Option.some.inj e1
      rw [List.getElem?_zipIdx] at hz2
      obtain ⟨r, hr, rfl⟩ := Option.map_eq_some_iff.mp hz2
      have e3 : vs[i]? = some v := e2
      replace hO := hO.newT (vs := [.int (i : Nat), v]) hT rfl
      obtain ⟨t, rfl, hO⟩ := opnR hO (r := r) (Dv.get (vs := vs) (ds := ss.map rD) (Dv.of (List.mem_cons_of_mem _ (sp _ (sp5 _ List.mem_cons_self)))) e3 (by rw [List.getElem?_map, hr]; rfl))
      obtain ⟨n, oa, ob⟩ := r
      dsimp only at hO kn ky
      generalize upd H9 T0 (.tup [.int (i : Nat), .ref t]) = H3 at hO ⊢
      rw [Nat.zero_add] at kn ky
      rcases oa with _ | oa
      · walk_at "go"
        exact ky rfl _ _ (by walk_at "ps") hO
      · walk_at "go"
        exact kn rfl _ _ (by walk_at "ps") hO
    rw [ew] at hO
    clear ew
    have m1 : Pf.dp vl (ls.map rD) ∈ P6 := sp6 _ (sp5 _ (List.mem_cons_of_mem _ List.mem_cons_self))
    have m2 : Pf.dp vs (ss.map rD) ∈ P6 := sp6 _ (sp5 _ List.mem_cons_self)
    have m3 : Pf.tup rm [.int a, .int b] ∈ P6 := sp6 _ (sp5 _ (List.mem_cons_of_mem _ (List.mem_cons_of_mem _ hrm)))
    have sp06 : Ps P P6 := (Ps.skip (Ps.skip Ps.refl)).trans (sp5.trans sp6)
    have hO2 : Own K H6 ((D2, .raw (.lst ((wts ss).map V.int))) :: (D, .raw (.lst ((wts ls).map V.int))) :: (pt pa ++ (qu T.C_Queues x dx l s a b ls ss ++ ((dl, .raw (.lst vl)) :: (ds, .raw (.lst vs)) :: R)))) P6 := by
      refine Own.sub hO ?_ Ps.refl
      walk_at "sbL"
    clear hO sp5 sp6 hrm
    have hO := hO2
    clear hO2
    walk_at "go"
    refine Stop.mk ⟨fun b' H' => Stop ((b' = true → way = 7 ∧ ls ++ ss ≠ []) ∧ ∃ P', Ps P6 P' ∧ Own K H' ((D2, .raw (.lst ((wts ss).map V.int))) :: (D, .raw (.lst ((wts ls).map V.int))) :: (pt pa ++ (qu T.C_Queues x dx l s a b ls ss ++ ((dl, .raw (.lst vl)) :: (ds, .raw (.lst vs)) :: R)))) P'), ?_, fun b' H' hM => ?_⟩
    · replace hO := hO.dv (Dv.of m2)
      replace hO := hO.dv (Dv.of (List.mem_cons_of_mem _ m1))
      have S1 := sh_cat ls ss
      have S2 := sh_nil
      have szc : vl.length + vs.length ≤ sizeLine := size_le (by omega)
      walk_at "go"
      refine iteD (fun h7 => ?_) (fun h7 => ?_)
      · walk_at "go"
        rw [eqv_nil]
        refine ⟨⟨fun e => ⟨V.int.inj h7, ?_⟩, P6, Ps.refl, ?_⟩⟩
        · intro z
          rw [← List.map_append, z] at e
          exact absurd e (by decide)
        · walk_at "fin"
      · exact ⟨⟨fun e => absurd e (by decide), _, Ps.skip (Ps.skip Ps.refl), hO⟩⟩
    clear hO
    obtain ⟨hb, P7, sp7, hO⟩ := hM.h
    clear hM
    cases b' with
    | true =>
      obtain ⟨rfl, hne⟩ := hb rfl
      have szc : vl.length + vs.length ≤ sizeLine := size_le (by omega)
      replace hO := hO.dv (Dv.of (sp7 _ m2))
      replace hO := hO.dv (Dv.of (List.mem_cons_of_mem _ (sp7 _ m1)))
      walk_at "go"
      intro E1 hE1
      have hcl : (vl ++ vs).length = (ls ++ ss).length := by rw [List.length_append, List.length_append, hvl, hvs]
      refine lc_rawW (walk_list (xs := vl ++ vs)) ((qkeys (ls ++ ss)).map V.int) hO hE1 (by rw [List.length_map, hcl]; simp [qkeys]) (by rw [List.length_append]; omega) (fun H' L' P' m s o => SqL.of (o.raw (m _ List.mem_cons_self))) (fun i x y H H' P' Q hi hY hy sp hO kq => ?_) (fun H8 P8 sp8 hO => ?_)
      · obtain ⟨rfl, hx⟩ := hY
        obtain ⟨r, hr⟩ : ∃ r, (ls ++ ss)[i]? = some r := ⟨(ls ++ ss)[i]'(by omega), List.getElem?_eq_getElem _⟩
        rw [qkeys, List.map_map, List.getElem?_map, hr] at hy
        obtain rfl : V.int r.1 = y := Option.some.inj hy
        obtain ⟨t, rfl, hO⟩ := opnR hO (r := r) (Dv.get (vs := vl ++ vs) (ds := (ls ++ ss).map rD) (by rw [List.map_append]; exact Dv.app (Dv.of (sp _ (by walk_at "mem"))) (Dv.of (sp _ (by walk_at "mem")))) hx (by rw [List.getElem?_map, hr]; rfl))
        walk_at "go"
        exact kq _ _ (Ps.skip Ps.refl) hO
      walk_at "go"
      intro zs q hp hs fq
      have hzl : zs.length = (ls ++ ss).length := by rw [hp.length_eq]; simp [qkeys]
      have hq1 : 0 < (zs.map V.int).length := by rw [List.length_map, hzl]; exact List.length_pos_iff.mpr hne
      have hq2 : (zs.map V.int).length ≤ 1000 := by rw [List.length_map, hzl, List.length_append]; omega
      have hz0 : ∀ z ∈ zs, 0 ≤ z := fun z hz => by
        have := hp.mem_iff.mp hz
        rw [qkeys, List.map_append] at this
        exact (hI.lo z this).1
      clear hp hs
      walk_at "go"
      intro iv v H9 hv hO
      obtain ⟨z, rfl, hz⟩ := int_get hv
      have hz1 := hz0 z (List.mem_of_getElem? hz)
      clear hv hq1 hq2 hzl
      walk_at "go"
      intro dv H10 d0 d1 hO
      have hl0 : 0 ≤ z + dv := by omega
      replace hO := hO.dv (Dv.of (sp8 _ (by walk_at "mem") : Pf.dp vs (ss.map rD) ∈ P8))
      replace hO := hO.dv (Dv.of (List.mem_cons_of_mem _ (sp8 _ (by walk_at "mem")) : Pf.dp vl (ls.map rD) ∈ _))
      walk_at "go"
      have hd_E2 := hO.raw (a := dl) (o := .lst vl) (by walk_at "mem")
      intro E2 hE2
      have hne_E2 : dl ≠ E2 := fun z => by rw [z, hE2] at hd_E2; cases hd_E2
      clear hd_E2
      refine lc_siftD ls rD (fun r => decide (r.1 < z + dv)) (by rw [← hvl]; exact walk_list (xs := vl)) hO hE2 (by omega) (fun H L' P' m t h => SqL.of (h.raw (m _ (by walk_at "mem")))) (fun i r v H9 H' P' ds2 Qn Qy hr hY sp hO kn ky => ?_) (fun H11 P11 sp11 hO => ?_)
      · obtain ⟨rfl, hx⟩ := hY
        have dvr : Dv1 K P' v (rD r) := Dv.get (vs := vl) (ds := ls.map rD) (Dv.of (sp _ (by walk_at "mem"))) hx (by rw [List.getElem?_map, hr]; rfl)
        obtain ⟨t, rfl, hO⟩ := opnR hO dvr
        walk_at "go"
        refine iteD (fun h => ?_) (fun h => ?_)
        · walk_at "go"
          exact ky (decide_eq_true h) _ _ _ (Ps.skip Ps.refl) hO (dvr.mono (Ps.skip Ps.refl))
        · walk_at "go"
          exact kn (decide_eq_false h) _ _ (Ps.skip Ps.refl) hO
      obtain ⟨ve, o1⟩ := hO.openL (a := E2) List.mem_cons_self
      replace hO := o1 _ .head
      clear o1
      have hve : ve.length ≤ ls.length := by
        have h1 := (hO.pdp List.mem_cons_self).len
        rw [List.length_map] at h1
        rw [h1]
        exact List.length_filter_le _ _
      have sz_E2 : vl.length + ve.length ≤ sizeLine := size_le (by omega)
      have mvs : Pf.dp vs (ss.map rD) ∈ P11 := sp11 _ (by walk_at "mem")
      replace hO := hO.dv (Dv.of (List.mem_cons_of_mem _ mvs))
      walk_at "go"
      have hd_E3 := hO.raw (a := ds) (o := .lst vs) (by walk_at "mem")
      intro E3 hE3
      have hne_E3 : ds ≠ E3 := fun z => by rw [z, hE3] at hd_E3; cases hd_E3
      clear hd_E3
      refine lc_siftD ss rD (fun r => decide (r.1 < z + dv)) (by rw [← hvs]; exact walk_list (xs := vs)) hO hE3 (by omega) (fun H L' P' m t h => SqL.of (h.raw (m _ (by walk_at "mem")))) (fun i r v H9 H' P' ds2 Qn Qy hr hY sp hO kn ky => ?_) (fun H12 P12 sp12 hO => ?_)
      · obtain ⟨rfl, hx⟩ := hY
        have dvr : Dv1 K P' v (rD r) := Dv.get (vs := vs) (ds := ss.map rD) (Dv.of (sp _ (by walk_at "mem"))) hx (by rw [List.getElem?_map, hr]; rfl)
        obtain ⟨t, rfl, hO⟩ := opnR hO dvr
        walk_at "go"
        refine iteD (fun h => ?_) (fun h => ?_)
        · walk_at "go"
          exact ky (decide_eq_true h) _ _ _ (Ps.skip Ps.refl) hO (dvr.mono (Ps.skip Ps.refl))
        · walk_at "go"
          exact kn (decide_eq_false h) _ _ (Ps.skip Ps.refl) hO
      obtain ⟨vf, o1⟩ := hO.openL (a := E3) List.mem_cons_self
      replace hO := o1 _ .head
      clear o1
      have hvf : vf.length ≤ ss.length := by
        have h1 := (hO.pdp List.mem_cons_self).len
        rw [List.length_map] at h1
        rw [h1]
        exact List.length_filter_le _ _
      have sz_E3 : vs.length + vf.length ≤ sizeLine := size_le (by omega)
      have mve : Pf.dp ve ((ls.filter fun r => decide (r.1 < z + dv)).map rD) ∈ P12 := sp12 _ (by walk_at "mem")
      have mvf : Pf.dp vf ((ss.filter fun r => decide (r.1 < z + dv)).map rD) ∈ (Pf.dp vf ((ss.filter fun r => decide (r.1 < z + dv)).map rD) :: P12) := List.mem_cons_self
      have n1 := hI.ndl
      have n2 := hI.nds
      walk_at "go"
      intro l' s' H13 P13 sp13 hO
      walk_at "go"
      refine k l' s' _ _ _ P13 (sp06.trans (sp7.trans ((Ps.skip (Ps.skip Ps.refl)).trans (sp8.trans ((Ps.skip (Ps.skip Ps.refl)).trans (sp11.trans ((Ps.skip (Ps.skip Ps.refl)).trans (sp12.trans ((Ps.skip Ps.refl).trans sp13))))))))) (hI.filter (fun r => decide (r.1 < z + dv)) _ (by omega)) ?_
      walk_at "fin"
      · exact Dv.of (sp13 _ (List.mem_cons_of_mem _ mve))
      · exact Dv.of (sp13 _ mvf)
    | false =>
      clear hb
      replace m1 := sp7 _ m1
      replace m2 := sp7 _ m2
      replace m3 := sp7 _ m3
      replace sp06 := sp06.trans sp7
      clear sp7
      walk_at "go"
      refine Stop.mk ⟨fun b' H' => Stop ((b' = true → way = 6 ∧ ls ++ ss ≠ []) ∧ ∃ P', Ps P7 P' ∧ Own K H' ((D2, .raw (.lst ((wts ss).map V.int))) :: (D, .raw (.lst ((wts ls).map V.int))) :: (pt pa ++ (qu T.C_Queues x dx l s a b ls ss ++ ((dl, .raw (.lst vl)) :: (ds, .raw (.lst vs)) :: R)))) P'), ?_, fun b' H' hM => ?_⟩
      · replace hO := hO.dv (Dv.of m2)
        replace hO := hO.dv (Dv.of (List.mem_cons_of_mem _ m1))
        have S1 := sh_cat ls ss
        have S2 := sh_nil
        have szc : vl.length + vs.length ≤ sizeLine := size_le (by omega)
        walk_at "go"
        refine iteD (fun h7 => ?_) (fun h7 => ?_)
        · walk_at "go"
          rw [eqv_nil]
          refine ⟨⟨fun e => ⟨V.int.inj h7, ?_⟩, P7, Ps.refl, ?_⟩⟩
          · intro z
            rw [← List.map_append, z] at e
            exact absurd e (by decide)
          · walk_at "fin"
        · exact ⟨⟨fun e => absurd e (by decide), _, Ps.skip (Ps.skip Ps.refl), hO⟩⟩
      clear hO
      obtain ⟨hb, P8, sp8, hO⟩ := hM.h
      clear hM
      cases b' with
      | true =>
        obtain ⟨rfl, hne⟩ := hb rfl
        have szc : vl.length + vs.length ≤ sizeLine := size_le (by omega)
        have hq0 : 0 < (qkeys (ls ++ ss)).length := by rw [qkeys, List.length_map]; exact List.length_pos_iff.mpr hne
        replace hO := hO.dv (Dv.of (sp8 _ m2))
        replace hO := hO.dv (Dv.of (List.mem_cons_of_mem _ (sp8 _ m1)))
        walk_at "go"
        intro E1 hE1
        have hcl : (vl ++ vs).length = (ls ++ ss).length := by rw [List.length_append, List.length_append, hvl, hvs]
        refine lc_rawW (walk_list (xs := vl ++ vs)) ((qkeys (ls ++ ss)).map V.int) hO hE1 (by rw [List.length_map, hcl]; simp [qkeys]) (by rw [List.length_append]; omega) (fun H' L' P' m s o => SqL.of (o.raw (m _ List.mem_cons_self))) (fun i x y H H' P' Q hi hY hy sp hO kq => ?_) (fun H8 P9 sp9 hO => ?_)
        · obtain ⟨rfl, hx⟩ := hY
          obtain ⟨r, hr⟩ : ∃ r, (ls ++ ss)[i]? = some r := ⟨(ls ++ ss)[i]'(by omega), List.getElem?_eq_getElem _⟩
          rw [qkeys, List.map_map, List.getElem?_map, hr] at hy
          obtain rfl : V.int r.1 = y := Option.some.inj hy
          obtain ⟨t, rfl, hO⟩ := opnR hO (r := r) (Dv.get (vs := vl ++ vs) (ds := (ls ++ ss).map rD) (by rw [List.map_append]; exact Dv.app (Dv.of (sp _ (by walk_at "mem"))) (Dv.of (sp _ (by walk_at "mem")))) hx (by rw [List.getElem?_map, hr]; rfl))
          walk_at "go"
          exact kq _ _ (Ps.skip Ps.refl) hO
        walk_at "go"
        have eqk : qkeys (ls ++ ss) = qkeys ls ++ qkeys ss := by rw [qkeys, List.map_append]; rfl
        intro m hm1 hm2
        rw [eqk] at hm1 hm2
        have hm0 := (hI.lo m hm1).1
        replace hO := hO.dv (Dv.of (sp9 _ (by walk_at "mem") : Pf.dp vs (ss.map rD) ∈ P9))
        replace hO := hO.dv (Dv.of (List.mem_cons_of_mem _ (sp9 _ (by walk_at "mem")) : Pf.dp vl (ls.map rD) ∈ _))
        walk_at "go"
        have hd_E2 := hO.raw (a := dl) (o := .lst vl) (by walk_at "mem")
        intro E2 hE2
        have hne_E2 : dl ≠ E2 := fun z => by rw [z, hE2] at hd_E2; cases hd_E2
        clear hd_E2
        refine lc_siftD ls rD (fun r => decide (r.1 ≠ m)) (by rw [← hvl]; exact walk_list (xs := vl)) hO hE2 (by omega) (fun H L' P' m t h => SqL.of (h.raw (m _ (by walk_at "mem")))) (fun i r v H9 H' P' ds2 Qn Qy hr hY sp hO kn ky => ?_) (fun H11 P11 sp11 hO => ?_)
        · obtain ⟨rfl, hx⟩ := hY
          have dvr : Dv1 K P' v (rD r) := Dv.get (vs := vl) (ds := ls.map rD) (Dv.of (sp _ (by walk_at "mem"))) hx (by rw [List.getElem?_map, hr]; rfl)
          obtain ⟨t, rfl, hO⟩ := opnR hO dvr
          walk_at "go"
          refine iteN (fun h => ?_) (fun h => ?_)
          · walk_at "go"
            exact ky (decide_eq_true (fun z => h (congrArg V.int z))) _ _ _ (Ps.skip Ps.refl) hO (dvr.mono (Ps.skip Ps.refl))
          · walk_at "go"
            exact kn (decide_eq_false (fun z => z (V.int.inj h))) _ _ (Ps.skip Ps.refl) hO
        obtain ⟨ve, o1⟩ := hO.openL (a := E2) List.mem_cons_self
        replace hO := o1 _ .head
        clear o1
        have hve : ve.length ≤ ls.length := by
          have h1 := (hO.pdp List.mem_cons_self).len
          rw [List.length_map] at h1
          rw [h1]
          exact List.length_filter_le _ _
        have sz_E2 : vl.length + ve.length ≤ sizeLine := size_le (by omega)
        have mvs : Pf.dp vs (ss.map rD) ∈ P11 := sp11 _ (by walk_at "mem")
        replace hO := hO.dv (Dv.of (List.mem_cons_of_mem _ mvs))
        walk_at "go"
        have hd_E3 := hO.raw (a := ds) (o := .lst vs) (by walk_at "mem")
        intro E3 hE3
        have hne_E3 : ds ≠ E3 := fun z => by rw [z, hE3] at hd_E3; cases hd_E3
        clear hd_E3
        refine lc_siftD ss rD (fun r => decide (r.1 ≠ m)) (by rw [← hvs]; exact walk_list (xs := vs)) hO hE3 (by omega) (fun H L' P' m t h => SqL.of (h.raw (m _ (by walk_at "mem")))) (fun i r v H9 H' P' ds2 Qn Qy hr hY sp hO kn ky => ?_) (fun H12 P12 sp12 hO => ?_)
        · obtain ⟨rfl, hx⟩ := hY
          have dvr : Dv1 K P' v (rD r) := Dv.get (vs := vs) (ds := ss.map rD) (Dv.of (sp _ (by walk_at "mem"))) hx (by rw [List.getElem?_map, hr]; rfl)
          obtain ⟨t, rfl, hO⟩ := opnR hO dvr
          walk_at "go"
          refine iteN (fun h => ?_) (fun h => ?_)
          · walk_at "go"
            exact ky (decide_eq_true (fun z => h (congrArg V.int z))) _ _ _ (Ps.skip Ps.refl) hO (dvr.mono (Ps.skip Ps.refl))
          · walk_at "go"
            exact kn (decide_eq_false (fun z => z (V.int.inj h))) _ _ (Ps.skip Ps.refl) hO
        obtain ⟨vf, o1⟩ := hO.openL (a := E3) List.mem_cons_self
        replace hO := o1 _ .head
        clear o1
        have hvf : vf.length ≤ ss.length := by
          have h1 := (hO.pdp List.mem_cons_self).len
          rw [List.length_map] at h1
          rw [h1]
          exact List.length_filter_le _ _
        have sz_E3 : vs.length + vf.length ≤ sizeLine := size_le (by omega)
        have mve : Pf.dp ve ((ls.filter fun r => decide (r.1 ≠ m)).map rD) ∈ P12 := sp12 _ (by walk_at "mem")
        have mvf : Pf.dp vf ((ss.filter fun r => decide (r.1 ≠ m)).map rD) ∈ (Pf.dp vf ((ss.filter fun r => decide (r.1 ≠ m)).map rD) :: P12) := List.mem_cons_self
        have hdj := hI.dj m
        walk_at "go"
        intro H13 P13 sp13 hO
        walk_at "go"
        refine k l s _ _ _ P13 (sp06.trans (sp8.trans ((Ps.skip (Ps.skip Ps.refl)).trans (sp9.trans ((Ps.skip (Ps.skip Ps.refl)).trans (sp11.trans ((Ps.skip (Ps.skip Ps.refl)).trans (sp12.trans ((Ps.skip Ps.refl).trans sp13))))))))) (hI.filter (fun r => decide (r.1 ≠ m)) _ (by omega)) ?_
        walk_at "fin"
        · exact Dv.of (sp13 _ (List.mem_cons_of_mem _ mve))
        · exact Dv.of (sp13 _ mvf)
      | false =>
        clear hb
        replace m1 := sp8 _ m1
        replace m2 := sp8 _ m2
        replace m3 := sp8 _ m3
        replace sp06 := sp06.trans sp8
        clear sp8
        walk_at "go"
        refine Stop.mk ⟨fun b' H' => Stop ((b' = true → wts ss ≠ []) ∧ ∃ P', Ps P8 P' ∧ Own K H' ((D2, .raw (.lst ((wts ss).map V.int))) :: (D, .raw (.lst ((wts ls).map V.int))) :: (pt pa ++ (qu T.C_Queues x dx l s a b ls ss ++ ((dl, .raw (.lst vl)) :: (ds, .raw (.lst vs)) :: R)))) P'), ?_, fun b' H' hM => ?_⟩
        · have S1 := sh_ints (wts ss)
          have S2 := sh_nil
          walk_at "go"
          generalize inV (V.int way) [V.int 4, V.int 5] = c4
          cases c4 with
          | false => exact ⟨⟨fun e => absurd e (by decide), P8, Ps.refl, by walk_at "fin"⟩⟩
          | true =>
            walk_at "go"
            rw [eqv_nil]
            refine ⟨⟨fun e => ?_, P8, Ps.refl, ?_⟩⟩
            · intro z
              rw [z] at e
              exact absurd e (by decide)
            · walk_at "fin"
        clear hO
        obtain ⟨hb, P9, sp9, hO⟩ := hM.h
        clear hM
        cases b' with
        | true =>
          have hne := hb rfl
          clear hb
          have hw1 : 0 < ((wts ss).map V.int).length := by rw [List.length_map]; exact List.length_pos_iff.mpr hne
          have hw2 : ((wts ss).map V.int).length ≤ 1000 := by
            have := wts_len ss
            rw [List.length_map]
            omega
          walk_at "go"
          intro iv v H10 hv hO
          obtain ⟨z, rfl, hz⟩ := int_get hv
          obtain ⟨j, r, hr, hr1, rfl⟩ := wts_mem (List.mem_of_getElem? hz)
          have hr2 := hI.ns r (List.mem_of_getElem? hr) hr1
          obtain ⟨n, oa, ob⟩ := r
          obtain rfl : oa = none := hr1
          obtain rfl : ob = none := hr2
          have hj : j < vs.length := by have := (List.getElem?_eq_some_iff.mp hr).1; omega
          have hvj : vs[j]? = some vs[j] := List.getElem?_eq_getElem hj
          generalize vs[j] = u at hvj
          clear hv hw1 hw2
          walk_at "go"
          intro wd H11 wd0 wd1 hO
          obtain ⟨t, rfl, hO⟩ := opnR hO (r := (n, none, none)) (Dv.get (vs := vs) (ds := ss.map rD) (Dv.of (sp9 _ m2)) hvj (by rw [List.getElem?_map, hr]; rfl))
          have ad := atI_nat hvj
          have hix := ixR hj
          have hnm : n ∈ qkeys ss := List.mem_map.mpr ⟨_, List.mem_of_getElem? hr, rfl⟩
          have hn00 := (hI.lo n (List.mem_append_right _ hnm)).1
          have hmem := List.mem_of_getElem? hr
          have n2 := hI.nds
          replace hO := hO.dv (Dv.of (List.mem_cons_of_mem _ (sp9 _ m1)) : Dv K (_ :: _) vl (ls.map rD))
          walk_at "go"
          intro H12 P12 sp12 hO
          have dvl : Pf.dp vl (ls.map rD) ∈ P12 := sp12 _ (List.mem_cons_of_mem _ List.mem_cons_self)
          have dvt : Pf.tup p [.int n, .int pl, .int wd] ∈ P12 := sp12 _ List.mem_cons_self
          have dvs : Pf.dp vs (ss.map rD) ∈ P12 := sp12 _ (List.mem_cons_of_mem _ (List.mem_cons_of_mem _ (List.mem_cons_of_mem _ (sp9 _ m2))))
          have sp012 : Ps P P12 := sp06.trans (sp9.trans ((Ps.skip (Ps.skip (Ps.skip Ps.refl))).trans sp12))
          clear sp12
          replace hO := hO.dv (Dv.of dvl)
          walk_at "go"
          intro H13 P13 sp13 hO
          walk_at "go"
          · exact scal_oV _ _
          refine qbl (k l s ls (setW ss n (some pl) (some wd)) H13 P13 (sp012.trans ((Ps.skip Ps.refl).trans sp13)) (hI.sets n pl (some wd) _ (by omega)) ?_) ?_
          · walk_at "fin"
            rw [setW_at n2 hr, List.map_set]
            exact Dv.set j (Dv1.tup (sp13 _ (List.mem_cons_of_mem _ dvt)) (Dv.cons (Dv1.int _) (Dv.cons (Dv1.int _) (Dv.cons (Dv1.int _) Dv.nil)))) (Dv.of (sp13 _ (List.mem_cons_of_mem _ dvs)))
          · exact decide_eq_true rfl
        | false =>
          clear hb
          replace m1 := sp9 _ m1
          replace m2 := sp9 _ m2
          replace m3 := sp9 _ m3
          replace sp06 := sp06.trans sp9
          clear sp9
          walk_at "go"
          refine Stop.mk ⟨fun b' H' => Stop ((b' = true → wts ls ≠ []) ∧ ∃ P', Ps P9 P' ∧ Own K H' ((D2, .raw (.lst ((wts ss).map V.int))) :: (D, .raw (.lst ((wts ls).map V.int))) :: (pt pa ++ (qu T.C_Queues x dx l s a b ls ss ++ ((dl, .raw (.lst vl)) :: (ds, .raw (.lst vs)) :: R)))) P'), ?_, fun b' H' hM => ?_⟩
          · have S1 := sh_ints (wts ls)
            have S2 := sh_nil
            walk_at "go"
            generalize inV (V.int way) [V.int 2, V.int 3] = c4
            cases c4 with
            | false => exact ⟨⟨fun e => absurd e (by decide), P9, Ps.refl, by walk_at "fin"⟩⟩
            | true =>
              walk_at "go"
              rw [eqv_nil]
              refine ⟨⟨fun e => ?_, P9, Ps.refl, ?_⟩⟩
              · intro z
                rw [z] at e
                exact absurd e (by decide)
              · walk_at "fin"
          clear hO
          obtain ⟨hb, Pa, spa, hO⟩ := hM.h
          clear hM
          cases b' with
          | true =>
            have hne := hb rfl
            clear hb
            have hw1 : 0 < ((wts ls).map V.int).length := by rw [List.length_map]; exact List.length_pos_iff.mpr hne
            have hw2 : ((wts ls).map V.int).length ≤ 1000 := by
              have := wts_len ls
              rw [List.length_map]
              omega
            walk_at "go"
            intro iv v H10 hv hO
            obtain ⟨z, rfl, hz⟩ := int_get hv
            obtain ⟨j, r, hr, hr1, rfl⟩ := wts_mem (List.mem_of_getElem? hz)
            have hr2 := hI.nl r (List.mem_of_getElem? hr) hr1
            obtain ⟨n, oa, ob⟩ := r
            obtain rfl : oa = none := hr1
            obtain rfl : ob = none := hr2
            have hj : j < vl.length := by have := (List.getElem?_eq_some_iff.mp hr).1; omega
            have hvj : vl[j]? = some vl[j] := List.getElem?_eq_getElem hj
            generalize vl[j] = u at hvj
            clear hv hw1 hw2
            obtain ⟨t, rfl, hO⟩ := opnR hO (r := (n, none, none)) (Dv.get (vs := vl) (ds := ls.map rD) (Dv.of (spa _ m1)) hvj (by rw [List.getElem?_map, hr]; rfl))
            have ad := atI_nat hvj
            have hix := ixR hj
            have hnm : n ∈ qkeys ls := List.mem_map.mpr ⟨_, List.mem_of_getElem? hr, rfl⟩
            have hn00 := (hI.lo n (List.mem_append_left _ hnm)).1
            have hmem := List.mem_of_getElem? hr
            have n1 := hI.ndl
            have n2 := hI.nds
            replace hO := hO.dv (Dv.of (List.mem_cons_of_mem _ (spa _ m2)) : Dv K (_ :: _) vs (ss.map rD))
            walk_at "go"
            intro tf H11 P11 sp11 hO dvf
            have mvl : Pf.dp vl (ls.map rD) ∈ P11 := sp11 _ (List.mem_cons_of_mem _ (List.mem_cons_of_mem _ (spa _ m1)))
            have mt : Pf.sq t [.int n, .non, .non] ∈ P11 := sp11 _ (List.mem_cons_of_mem _ List.mem_cons_self)
            have sp011 : Ps P P11 := sp06.trans (spa.trans ((Ps.skip (Ps.skip Ps.refl)).trans sp11))
            clear sp11
            walk_at "go"
            refine Stop.mk ⟨fun v H' => Stop (∃ (o : Option Int) (P' : List Pf), v = oV o ∧ (∀ z, o = some z → 0 ≤ z ∧ z < n ∧ ∃ ow, (z, some pl, ow) ∈ ss) ∧ Ps P11 P' ∧ Own K H' ((D2, .raw (.lst ((wts ss).map V.int))) :: (D, .raw (.lst ((wts ls).map V.int))) :: (pt pa ++ (qu T.C_Queues x dx l s a b ls ss ++ ((dl, .raw (.lst vl)) :: (ds, .L (ss.map rD)) :: R)))) P'), ?_, fun v H' hM => ?_⟩
            · have S1 := sh_src (srcOf ss n pl)
              walk_at "go"
              refine ⟨⟨_, .tuple [.str "memory"], hO.one (dvf.mono (Ps.skip Ps.refl)), hO.one (Dv1.tup List.mem_cons_self (Dv.cons (Dv1.str _) Dv.nil)), S1, by decide +kernel, ?_⟩⟩
              clear S1
              have dvf2 : Dv1 K P11 (.ref tf) (srcD (srcOf ss n pl)) := dvf
              cases hs : srcOf ss n pl with
              | none =>
                rw [show (!PyData.eqv (srcD none) (.tuple [.str "memory"])) = false from by decide]
                walk_at "go"
                exact ⟨⟨none, P11, rfl, (fun z h => nomatch h), Ps.refl, by walk_at "fin"⟩⟩
              | some z =>
                obtain ⟨v, ow⟩ := z
                rw [hs] at dvf2
                obtain ⟨hvn, hvm⟩ := srcOf_some hs
                rw [src_mem, Bool.not_false]
                have hv0 : 0 ≤ v := (hI.lo v (List.mem_append_right _ (List.mem_map.mpr ⟨_, hvm, rfl⟩))).1
                walk_at "go"
                intro dd H12 q0 q1 hO
                walk_at "go"
                refine iteD (fun h0 => ?_) (fun h0 => ?_)
                · obtain ⟨tf2, e, hO⟩ := opnS hO (dvf2.mono (Ps.skip Ps.refl))
                  obtain rfl : tf = tf2 := V.ref.inj e
                  walk_at "go"
                  exact ⟨⟨some v, P11, rfl, (fun z h => by cases h; exact ⟨hv0, hvn, ow, hvm⟩), Ps.refl, by walk_at "fin"⟩⟩
                · walk_at "go"
                  exact ⟨⟨none, P11, rfl, (fun z h => nomatch h), Ps.refl, by walk_at "fin"⟩⟩
            clear hO dvf
            obtain ⟨o, P12, rfl, hsrc, sp12, hO⟩ := hM.h
            clear hM
            replace mvl := sp12 _ mvl
            replace sp011 := sp011.trans sp12
            walk_at "go"
            intro H13 P13 sp13 hO
            walk_at "go"
            refine k l s (setW ls n (some pl) o) ss H13 P13 (sp011.trans ((Ps.skip Ps.refl).trans sp13)) (hI.setl n pl o _ (by omega)) ?_
            walk_at "fin"
            rw [setW_at n1 hr, List.map_set]
            exact Dv.set j (Dv1.tup (sp13 _ List.mem_cons_self) (Dv.cons (Dv1.int _) (Dv.cons (Dv1.int _) (Dv.cons (Dv1.oV _) Dv.nil)))) (Dv.of (sp13 _ (List.mem_cons_of_mem _ mvl)))
          | false =>
            clear hb
            replace m1 := spa _ m1
            replace m2 := spa _ m2
            replace m3 := spa _ m3
            replace sp06 := sp06.trans spa
            clear spa
            replace hO := hO.derive (q := .tup rm [.int a, .int b]) fun M h => h _ m3
            walk_at "go"
            refine Stop.mk ⟨fun b' H' => Stop ((b' = true → (ls.length : Int) < a) ∧ ∃ P', Ps Pa P' ∧ Own K H' ((D2, .raw (.lst ((wts ss).map V.int))) :: (D, .raw (.lst ((wts ls).map V.int))) :: (pt pa ++ (qu T.C_Queues x dx l s a b ls ss ++ ((dl, .raw (.lst vl)) :: (ds, .raw (.lst vs)) :: R)))) P'), ?_, fun b' H' hM => ?_⟩
            · walk_at "go"
              intro dq H12 q0 q1 hO
              walk_at "go"
              refine iteD (fun h0 => ?_) (fun h0 => ?_)
              · walk_at "go"
                exact ⟨⟨fun e => by rw [← hvl]; exact of_decide_eq_true e, Pa, Ps.refl, by walk_at "fin"⟩⟩
              · exact ⟨⟨fun e => absurd e (by decide), Pa, Ps.refl, by walk_at "fin"⟩⟩
            clear hO
            obtain ⟨hb, Pb, spb, hO⟩ := hM.h
            clear hM
            cases b' with
            | true =>
              have hlt := hb rfl
              clear hb
              have szl : vl.length < sizeLine := size_lt (by omega)
              have hz : ∀ z ∈ qkeys ls ++ qkeys ss, z < nx := fun z hz => (hI.lo z hz).2
              walk_at "go"
              intro H12 P12 sp12 hO
              walk_at "go"
              refine k l s (ls ++ [(nx, none, none)]) ss H12 P12 (sp06.trans (spb.trans ((Ps.skip Ps.refl).trans sp12))) (hI.addl hn0 hlt) ?_
              walk_at "fin"
              · rw [List.map_append]
                exact Dv.app (Dv.of (sp12 _ (List.mem_cons_of_mem _ (spb _ m1)))) (Dv.cons (Dv1.tup (sp12 _ List.mem_cons_self) (Dv.cons (Dv1.int _) (Dv.cons Dv1.non (Dv.cons Dv1.non Dv.nil)))) Dv.nil)
              · exact Dv.of (sp12 _ (List.mem_cons_of_mem _ (spb _ m2)))
            | false =>
              clear hb
              replace hO := hO.derive (q := .tup rm [.int a, .int b]) fun M h => h _ (spb _ m3)
              walk_at "go"
              refine iteD (fun h0 => ?_) (fun h0 => ?_)
              · have szl : vs.length < sizeLine := size_lt (by omega)
                have hz : ∀ z ∈ qkeys ls ++ qkeys ss, z < nx := fun z hz => (hI.lo z hz).2
                have hlt : (ss.length : Int) < b := by omega
                walk_at "go"
                intro H12 P12 sp12 hO
                walk_at "go"
                refine k l s ls (ss ++ [(nx, none, none)]) H12 P12 (sp06.trans (spb.trans ((Ps.skip (Ps.skip Ps.refl)).trans sp12))) (hI.adds hn0 hlt) ?_
                walk_at "fin"
                · exact Dv.of (sp12 _ (List.mem_cons_of_mem _ (List.mem_cons_of_mem _ (spb _ m1))))
                · rw [List.map_append]
                  exact Dv.app (Dv.of (sp12 _ (List.mem_cons_of_mem _ (List.mem_cons_of_mem _ (spb _ m2))))) (Dv.cons (Dv1.tup (sp12 _ List.mem_cons_self) (Dv.cons (Dv1.int _) (Dv.cons Dv1.non (Dv.cons Dv1.non Dv.nil)))) Dv.nil)
              · walk_at "go"
                refine k l s ls ss _ Pb (sp06.trans spb) (hI.up _ (by omega)) ?_
                walk_at "fin"
                · exact Dv.of (List.mem_cons_of_mem _ (spb _ m1))
                · exact Dv.of (List.mem_cons_of_mem _ (spb _ m2))
end
end K76

set_option Elab.async false
set_option linter.all false
set_option maxRecDepth 100000
set_option maxHeartbeats 8000000

namespace K76
open PySem PySem.Spec PyProof.Rows L2 Hx 
local macro_rules | `(tactic| walk_at "sm") => `(tactic| repeat' (first | assumption | apply Hx.Same.upd | exact L2.Same.refl _ | apply same_trans'))
local macro_rules | `(tactic| walk_at "hp") => `(tactic| repeat' (first | assumption | exact upd_same | apply old_upd | apply same_at))
local macro_rules | `(tactic| walk_at "rd") => `(tactic| repeat' (first | rfl | apply Exists.intro | apply And.intro | refine iteT ?_ | refine iteF ?_ | exact upd_same | exact SqL.of (by assumption) | exact SqL.of upd_same | exact SqT.of upd_same | exact SqT.of (by assumption) | ((with_reducible show (_ : Int) < _); omega) | ((with_reducible show (_ : Int) ≤ _); omega) | (show (_ : Prop); assumption) | exact Or.inl ⟨_, by assumption, rfl⟩ | exact Or.inl ⟨rfl, _, SqL.of (by assumption)⟩ | exact Or.inl ⟨rfl, _, SqL.of upd_same⟩ | apply old_upd | apply Hx.SqL.new | apply tyl_new | apply Pot.new | exact same_at (by assumption) (by assumption) | exact Or.inl (SqL.of (by assumption)) | exact Or.inl (by assumption) | exact Or.inl (SqL.of upd_same) | exact size_le (Nat.le_of_ble_eq_true rfl) | exact Nat.le_of_ble_eq_true rfl | exact True.intro | exact Or.inl rfl | exact Or.inr rfl | (show (_ : Prop); omega) | (show (_ : Prop); dsimp only; omega) | exact mulw64 (by omega) (by omega) | exact mulw64 (by (try dsimp only); omega) (by (try dsimp only); omega)))
set_option hygiene false in
local macro_rules | `(tactic| walk_at "fl") => `(tactic| simp only [pu_Queues_load_rooms, pi_Queues_load_rooms, pu_Queues_store_rooms, pi_Queues_store_rooms, pu_Queues_loads, pi_Queues_loads, pu_Queues_stores, pi_Queues_stores] at hO)
local macro_rules | `(tactic| walk_at "mem") => `(tactic| ((repeat (first | exact List.Mem.head _ | apply List.Mem.tail | fail)); done))
local macro_rules | `(tactic| walk_at "setat") => `(tactic| ((repeat (first | (with_reducible exact At.head) | (with_reducible apply At.tail) | (with_reducible apply At.app) | fail)); done))
set_option hygiene false in
local macro_rules | `(tactic| walk_at "dv") => `(tactic| ((repeat' (first | exact Dv.nil | exact Dv.of (by walk_at "mem") | exact Dv.ints _ | exact Dv1.of (by walk_at "mem") | exact Dv1.int _ | exact Dv1.non | exact Dv1.bl _ | exact Dv1.str _ | (with_reducible apply Dv.cons) | refine Dv1.tup (by walk_at "mem") ?_ | refine Dv1.lst (by walk_at "mem") ?_ | (with_reducible apply Dv.app) | fail)); done))
local macro_rules | `(tactic| walk_at "ft") => `(tactic| (first | (with_reducible exact Ft.refl) | ((with_reducible apply Ft.toL); focus walk_at "dv") | ((with_reducible apply Ft.toS); focus assumption) | (with_reducible apply Ft.lst) | (with_reducible apply Ft.Le) | (with_reducible apply Ft.dK) | (with_reducible apply Ft.De) | (with_reducible apply Ft.ins) | (with_reducible apply Ft.toL) | (with_reducible apply Ft.toS) | (with_reducible apply Ft.toD) | fail))
local macro_rules | `(tactic| walk_at "sbL") => `(tactic| repeat' (first | (with_reducible exact Sb.refl _) | exact Sb.nil | (with_reducible apply Sb.cons) | (with_reducible apply Sb.app) | (with_reducible exact Pk.one) | (with_reducible exact Pk.here) | (with_reducible exact Pk.all) | (with_reducible apply Pk.skip1) | (with_reducible apply Pk.skipB) | (with_reducible apply Sb.skip) | (with_reducible apply Sb.skipB) | ((with_reducible show Ft _ _ _ _); walk_at "ft") | ((with_reducible show (_ : List _) = _); (first | rfl | (simp [List.map_set, List.map_append]; done) | fail)) | fail))
local macro_rules | `(tactic| walk_at "sb") => `(tactic| ((walk_at "sbL"); done))
local macro_rules | `(tactic| walk_at "ps") => `(tactic| ((repeat' (first | (with_reducible exact Ps.refl) | exact Ps.nil | (with_reducible apply Ps.cons) | exact List.Mem.head _ | apply List.Mem.tail | (with_reducible apply Ps.skip) | fail)); done))
set_option hygiene false in
local macro_rules | `(tactic| walk_at "at") => `(tactic| first | assumption | exact Own.raw hO (by walk_at "mem") | exact Own.ptup hO (by walk_at "mem") | exact Own.plst hO (by walk_at "mem") | fail)
set_option hygiene false in
local macro_rules | `(tactic| walk_at "st") => `(tactic| (rw [upd_mkO hO]; generalize e : updX _ _ _ = H1; (first | ((apply Own.cset hO e); (focus walk_at "setat"); (try clear hO e); intro hO) | ((apply Own.cnewT hO e); (focus assumption); (try clear hO e); intro hO) | ((apply Own.cnew hO e); (focus assumption); (try clear hO e); intro hO) | fail)))
set_option hygiene false in
local macro_rules | `(tactic| walk_at "mk") => `(tactic| (intro p1 p2 f1 f2 f3; rw [upd_mkO hO]; generalize e : upd (updX _ _ _) _ _ = H1; apply Own.cmake hO f1 f2 f3 e; (try clear hO e); intro hO))
set_option hygiene false in
local macro_rules | `(tactic| walk_at "own") => `(tactic| (first | ((apply Own.sub hO); (focus walk_at "sb"); (focus walk_at "ps")) | ((apply Own.sub hF); (focus walk_at "sb"); (focus walk_at "ps")) | fail))
set_option hygiene false in
local macro_rules | `(tactic| walk_at "fin") => `(tactic| (refine Own.sub hO ?_ (by walk_at "ps"); walk_at "sbL"))
set_option hygiene false in
local macro_rules | `(tactic| walk_at "g1") => `(tactic| (first
 | ((with_reducible show (_ : Option HO) = _); walk_at "at")
 | ((with_reducible show (_ : Int) < _); omega) | ((with_reducible show (_ : Int) ≤ _); omega)
 | ((with_reducible show (_ : Nat) < _); (first | assumption | exact Nat.le_of_ble_eq_true rfl | exact size_lt (Nat.le_of_ble_eq_true rfl) | omega | (simp; done) | (simp; omega) | fail))
 | ((with_reducible show (_ : Nat) ≤ _); (first | assumption | exact Nat.le_of_ble_eq_true rfl | exact size_le (Nat.le_of_ble_eq_true rfl) | omega | (simp; done) | (simp; omega) | fail))
 | ((with_reducible show Own _ _ _ _); (first | walk_at "own" | (walk_at "st"; walk_at "own") | fail))
 | ((with_reducible show SqL _ _ _ _); (first | assumption | exact SqL.of (by walk_at "at") | fail))
 | ((with_reducible show SqT _ _ _ _); (first | assumption | exact hO.psq (by walk_at "mem") | exact SqT.of (by walk_at "at") | fail))
  | ((with_reducible show Cls _ _); exact Txt.cl_Queues T) | ((with_reducible show NoAttr _ _ _); exact Txt.n_Queues_load_rooms T) | (with_reducible exact gt_Queues_load_rooms) | ((with_reducible show NoAttr _ _ _); exact Txt.n_Queues_store_rooms T) | (with_reducible exact gt_Queues_store_rooms) | ((with_reducible show NoAttr _ _ _); exact Txt.n_Queues_loads T) | (with_reducible exact gt_Queues_loads) | ((with_reducible show NoAttr _ _ _); exact Txt.n_Queues_stores T) | (with_reducible exact gt_Queues_stores)  | ((with_reducible show V.ref _ = V.ref _); (first | rfl | fail))
 | ((with_reducible show DGet _ _ _ _); (first | exact DGet.ki (by walk_at "at") (by assumption) | exact DGet.kiF (by walk_at "at") (by assumption) | fail))
 | ((with_reducible show DPut _ _ _ _ _); exact DPut.ki (by walk_at "at") (by assumption))
 | ((with_reducible show Rd _ _ _); (first | exact Or.inl (by walk_at "at") | exact Or.inr ⟨_, by walk_at "at"⟩ | fail))
 | ((with_reducible show (∃ _ : List (Key × V), _) ∨ _); refine Or.inl ⟨_, by walk_at "at", ?_⟩)
 | ((with_reducible show Dv _ _ _ _); focus walk_at "dv") | ((with_reducible show Dv1 _ _ _ _); focus walk_at "dv")
 | ((with_reducible show IsD _ _); exact Or.inl ⟨_, Or.inl (by walk_at "at")⟩)
 | ((with_reducible show V.int _ = kV _); exact kV_int)
 | ((with_reducible show Option.isSome _ = true); (first | exact isSome_ofV (by assumption) | assumption | fail))
 | ((with_reducible show SqL _ _ _ _ ∨ SqT _ _ _ _); (first | exact Or.inl (by assumption) | exact Or.inr (by assumption) | exact Or.inl (SqL.of (by walk_at "at")) | exact Or.inr (SqT.of (by walk_at "at")) | fail))
 | ((with_reducible show Dp _ _ _ _); (first | assumption | exact hO.dpL (by walk_at "mem") | exact .lst (SqL.of (by walk_at "at")) (hO.all (by walk_at "dv")) | exact hO.one (by walk_at "dv") | fail))
 | ((with_reducible show TruV _ _ _ _); (first | exact Or.inl ⟨_, SqL.of (by walk_at "at"), rfl⟩ | exact Or.inr (Or.inr ⟨_, by walk_at "at", rfl⟩) | exact Or.inr (Or.inl ⟨_, SqT.of (by walk_at "at"), rfl⟩) | fail))
 | ((with_reducible show RgOk _ _); exact RgOk.of_le (by omega) (by omega) (by omega) (by omega))
 | rfl | (with_reducible assumption) | apply And.intro | apply Exists.intro | refine iteT ?_ | refine iteF ?_
 | (walk_at "st"; (try walk_at "fl"))
 | ((with_reducible show ∀ _ : Addr, _ = none → _); (fail_if_success (with_reducible show ∀ _ : Addr, _ = none → ∃ _ : Nat → Nat → Hp → Prop, _)); intro p fp; walk_at "st")
 | (refine Or.inl ⟨SqL.of (by walk_at "at"), ?_⟩) | (refine Or.inr ⟨SqT.of (by walk_at "at"), ?_⟩) | exact Or.inl ⟨_, by walk_at "at", rfl⟩ | exact Or.inl ⟨rfl, _, SqL.of (by walk_at "at")⟩ | exact tyl_of (by walk_at "at") | exact Or.inl (SqL.of (by walk_at "at")) | exact Or.inr (SqT.of (by walk_at "at")) | exact Or.inl (by walk_at "at") | exact size_le (Nat.le_of_ble_eq_true rfl) | exact Nat.le_of_ble_eq_true rfl | exact True.intro | exact Or.inl rfl | exact Or.inr rfl | (show (_ : Prop); assumption) | (show (_ : Prop); omega) | (show (_ : Prop); dsimp only; omega) | exact mulw64 (by omega) (by omega) | exact mulw64 (by (try dsimp only); omega) (by (try dsimp only); omega) | fail))
local macro_rules | `(tactic| walk_at "go") => `(tactic| repeat walk_at "g1")

section
variable {P : Program} {w : World} {K : PySem.W.Frag} {mg : Str → Option Value} {base : Heap}
theorem eqv_oD (a b : Option Int) : PyData.eqv (oD a) (oD b) = decide (a = b) := by
  cases a <;> cases b <;> simp [oD, PyData.eqv]
  rename_i x y
  exact Bool.beq_eq_decide_eq x y
theorem eqv_pair (a b c d : Option Int) : PyData.eqv (.tuple [oD a, oD b]) (.tuple [oD c, oD d]) = decide (a = c ∧ b = d) := by
  simp only [PyData.eqv, PyData.eqvAll, eqv_oD, Bool.and_true]
  by_cases h1 : a = c <;> by_cases h2 : b = d <;> simp [h1, h2]
theorem eqv_rD (r q : QR) : PyData.eqv (rD r) (rD q) = decide (r = q) := by
  obtain ⟨n, a, b⟩ := r
  obtain ⟨m, c, d⟩ := q
  simp only [rD, PyData.eqv, PyData.eqvAll, eqv_oD, Bool.and_true]
  by_cases h0 : n = m <;> by_cases h1 : a = c <;> by_cases h2 : b = d <;> simp [h0, h1, h2]
theorem eqvA_rows : ∀ rs qs : List QR, PyData.eqvAll (rs.map rD) (qs.map rD) = decide (rs = qs)
  | [], [] => by simp [PyData.eqvAll]
  | [], _ :: _ => by simp [PyData.eqvAll]
  | _ :: _, [] => by simp [PyData.eqvAll]
  | r :: rs, q :: qs => by
    rw [List.map_cons, List.map_cons]
    simp only [PyData.eqvAll, eqv_rD, eqvA_rows rs qs]
    by_cases h1 : r = q <;> by_cases h2 : rs = qs <;> simp [h1, h2]
theorem eqv_both (ls ss ls' ss' : List QR) : PyData.eqv (.tuple [.list (ls.map rD), .list (ss.map rD)]) (.tuple [.list (ls'.map rD), .list (ss'.map rD)]) = decide (ls = ls' ∧ ss = ss') := by
  simp only [PyData.eqv, PyData.eqvAll, eqvA_rows, Bool.and_true]
  by_cases h1 : ls = ls' <;> by_cases h2 : ss = ss' <;> simp [h1, h2]
theorem sh_both (ls ss : List QR) : SeqAt.shaped (.tuple [.list (ls.map rD), .list (ss.map rD)]) = true := by
  have h1 := rDs_depth ls
  have h2 := rDs_depth ss
  have l1 := rDs_lay ls
  have l2 := rDs_lay ss
  show (PyData.canLay0 _ && decide (PyData.depth _ ≤ 64)) = true
  rw [Bool.and_eq_true]
  refine ⟨by simp [PyData.canLay0, PyData.canLayAll0, l1, l2], decide_eq_true ?_⟩
  simp only [PyData.depth, PyData.depthAll]
  omega
theorem hit_row {qs : List QR} (nd : (qkeys qs).Nodup) (r : QR) : hitD (ik (qD qs)) (Sum.inl r.1, .tuple [oD r.2.1, oD r.2.2]) = decide (r ∈ qs) := by
  unfold hitD
  by_cases h : ∃ q ∈ qs, q.1 = r.1
  · obtain ⟨q, hq, e⟩ := h
    have hf := find_row nd hq
    rw [e] at hf
    simp only [hf, eqv_pair]
    by_cases e2 : r = q
    · subst e2; simp [hq]
    · have n1 : r ∉ qs := fun m => by
        have h1 := find_row nd m
        rw [hf] at h1
        have h2 := eqv_pair q.2.1 q.2.2 r.2.1 r.2.2
        rw [Option.some.inj h1, eqv_pair] at h2
        have h3 : q.2.1 = r.2.1 ∧ q.2.2 = r.2.2 := by simpa using h2.symm
        exact e2 (Prod.ext e.symm (Prod.ext h3.1.symm h3.2.symm))
      have n2 : ¬ (r.2.1 = q.2.1 ∧ r.2.2 = q.2.2) := fun h => e2 (Prod.ext e.symm (Prod.ext h.1 h.2))
      rw [decide_eq_false n1, decide_eq_false n2]
  · have h1 : r.1 ∉ qkeys qs := fun m => by
      obtain ⟨q, hq, e⟩ := List.mem_map.mp m
      exact h ⟨q, hq, e⟩
    rw [find_none h1]
    exact (decide_eq_false fun m => h ⟨r, m, rfl⟩).symm
theorem sub_asc : ∀ {rs qs : List QR}, (qkeys rs).Pairwise (· < ·) → (qkeys qs).Pairwise (· < ·) → (∀ r ∈ rs, r ∈ qs) → rs.Sublist qs
  | [], _, _, _, _ => List.nil_sublist _
  | r :: rs, [], _, _, h => by have := h r List.mem_cons_self; simp at this
  | r :: rs, q :: qs, h1, h2, h => by
    have h1' := h1
    rw [qkeys, List.map_cons, List.pairwise_cons] at h1 h2
    by_cases e : r = q
    · subst e
      refine (sub_asc h1.2 h2.2 fun z hz => ?_).cons₂ _
      rcases List.mem_cons.mp (h z (List.mem_cons_of_mem _ hz)) with rfl | m
      · have := h1.1 z.1 (List.mem_map.mpr ⟨z, hz, rfl⟩); omega
      · exact m
    · have m : r ∈ qs := (List.mem_cons.mp (h r List.mem_cons_self)).resolve_left e
      have lt := h2.1 r.1 (List.mem_map.mpr ⟨r, m, rfl⟩)
      refine (sub_asc h1' h2.2 fun z hz => ?_).cons _
      rcases List.mem_cons.mp (h z hz) with rfl | m2
      · rcases List.mem_cons.mp hz with rfl | hz
        · exact absurd rfl e
        · have := h1.1 z.1 (List.mem_map.mpr ⟨z, hz, rfl⟩); omega
      · exact m2
theorem eqvDD_rows {rs qs : List QR} (a1 : (qkeys rs).Pairwise (· < ·)) (a2 : (qkeys qs).Pairwise (· < ·)) : eqvDD (ik (qD rs)) (ik (qD qs)) = decide (rs = qs) := by
  have ea : (ik (qD rs)).all (hitD (ik (qD qs))) = decide (∀ r ∈ rs, r ∈ qs) := by
    rw [ik_qD rs, List.all_map]
    have : ∀ r : QR, (hitD (ik (qD qs)) ∘ fun r : QR => (Sum.inl r.1, PyData.tuple [oD r.2.1, oD r.2.2])) r = decide (r ∈ qs) := fun r => hit_row (asc_nodup a2) r
    by_cases h : ∀ r ∈ rs, r ∈ qs
    · rw [decide_eq_true h, List.all_eq_true]
      exact fun r hr => (this r).trans (decide_eq_true (h r hr))
    · rw [decide_eq_false h, ← Bool.not_eq_true, List.all_eq_true]
      exact fun z => h fun r hr => of_decide_eq_true ((this r).symm.trans (z r hr))
  have el : ∀ zs : List QR, (ik (qD zs)).length = zs.length := fun zs => by rw [ik_qD, List.length_map]
  rw [eqvDD, ea, el, el]
  by_cases e : rs = qs
  · subst e; simp
  · rw [decide_eq_false e, ← Bool.not_eq_true, Bool.and_eq_true]
    rintro ⟨h1, h2⟩
    exact e ((sub_asc a1 a2 (of_decide_eq_true h2)).eq_of_length (beq_iff_eq.mp h1))
theorem eqQ_rows {a b : Int} {ls ss ls' ss' : List QR} (h1 : (qkeys ls).Pairwise (· < ·)) (h2 : (qkeys ss).Pairwise (· < ·)) (h3 : (qkeys ls').Pairwise (· < ·)) (h4 : (qkeys ss').Pairwise (· < ·)) : eqQ a b ls ss a b ls' ss' = decide (ls = ls' ∧ ss = ss') := by
  rw [eqQ, eqvDD_rows h1 h3, eqvDD_rows h2 h4]
  by_cases e1 : ls = ls' <;> by_cases e2 : ss = ss' <;> simp [e1, e2]
theorem eqQ_self {a b : Int} {ls ss : List QR} (h1 : (qkeys ls).Pairwise (· < ·)) (h2 : (qkeys ss).Pairwise (· < ·)) : eqQ a b ls ss a b ls ss = true := by rw [eqQ_rows h1 h2 h1 h2]; exact decide_eq_true ⟨rfl, rfl⟩
theorem eqQ_no (a b : Int) (ls ss ls' ss' : List QR) : eqQ a b ls ss (a + 1) b ls' ss' = false := by rw [eqQ, decide_eq_false (by omega), Bool.false_and]
theorem eqQ_use {K : PySem.W.Frag} {C x dx l s y dy l' s' : Addr} {a b a' b' : Int} {ls ss ls' ss' : List QR} {R : List (Addr × Ob)} {P : List Pf} {H : Hp} (hO : Own K H (qu C x dx l s a b ls ss ++ (qu C y dy l' s' a' b' ls' ss' ++ R)) P) {G : VK} {E : XK} (k : G (.bl (eqQ a b ls ss a' b' ls' ss')) H) :
    ∃ a b dx dy fs gs, V.ref x = .ref a ∧ V.ref y = .ref b ∧ H a = some (.ins C dx fs) ∧ H b = some (.ins C dy gs) ∧ sp_eqQ K C [.ref a, .ref b] H G E := by
  have hF := hO
  simp only [qu, List.cons_append, List.nil_append] at hF
  exact ⟨x, y, dx, dy, _, _, rfl, rfl, hF.raw (List.Mem.head _), hF.raw (.tail _ (.tail _ (.tail _ (List.Mem.head _)))), x, dx, l, s, a, b, ls, ss, y, R, P, rfl, .inl ⟨dy, l', s', a', b', ls', ss', hO, k⟩⟩
theorem eqQL_use {K : PySem.W.Frag} {C x dx l s y : Addr} {a b : Int} {ls ss : List QR} {xs : List V} {R : List (Addr × Ob)} {P : List Pf} {H : Hp} (hO : Own K H (qu C x dx l s a b ls ss ++ R) P) (hy : H y = some (.lst xs)) {G : VK} {E : XK} (k : G (.bl false) H) :
    ∃ a b dx fs xs, V.ref x = .ref a ∧ V.ref y = .ref b ∧ H a = some (.ins C dx fs) ∧ H b = some (.lst xs) ∧ sp_eqQ K C [.ref a, .ref b] H G E := by
  have hF := hO
  simp only [qu, List.cons_append, List.nil_append] at hF
  exact ⟨x, y, dx, _, xs, rfl, rfl, hF.raw (List.Mem.head _), hy, x, dx, l, s, a, b, ls, ss, y, R, P, rfl, .inr ⟨xs, hO, hy, k⟩⟩
theorem Iv.start {a b nx : Int} (ha : 1 ≤ a ∧ a ≤ 8) (hb : 1 ≤ b ∧ b ≤ 8) : Iv a b nx [] [] :=
  ⟨List.Pairwise.nil, List.Pairwise.nil, (fun z h => nomatch h), (fun z h => nomatch h), (by simp; omega), (by simp; omega), ha, hb, (fun r h => nomatch h), (fun r h => nomatch h)⟩
theorem keepP {K : PySem.W.Frag} {H : Hp} {L : List (Addr × Ob)} {P : List Pf} {q : Pf} {G : Prop} (hO : Own K H L P) (m : q ∈ P) (k : ∀ P0, q ∈ P0 → Own K H L P0 → G) : G := k P m hO
def sp_Lright (K : PySem.W.Frag) : Sp := fun vs H Q _ => ∃ (a : Addr) (R : List (Addr × Ob)) (P : List Pf), vs = [.ref a] ∧ Own K H (pt a ++ R) P ∧ ∀ (H' : Hp), Q (.bl true) H'
theorem ok_Lright (T : Txt K mg) : FnOk P w K mg base CX0 7 T.f_Lright T.fd_Lright ["_law_pot_here"] (sp_Lright K) := by
  have G_Ldraw := ok_Ldraw (P := P) (w := w) (base := base) T
  have G_Queues_init := ok_Queues_init (P := P) (w := w) (base := base) T
  have G_Queues_copy := ok_Queues_copy (P := P) (w := w) (base := base) T
  have G_Ldeed := ok_Ldeed (P := P) (w := w) (base := base) T
  have G_Ltold_right := ok_Ltold_right (P := P) (w := w) (base := base) T
  have G_Queues_stores := ok_Queues_stores (P := P) (w := w) (base := base) T
  have G_Queues_loads := ok_Queues_loads (P := P) (w := w) (base := base) T
  have G_Queues_eq := ok_Queues_eq (P := P) (w := w) (base := base) T
  refine T.F_Lright.ok sc_Lright (fun vs H Q E h => ?_) (fun cdv A outer s H vs Q E hr h => ?_)
  · obtain ⟨pa, R, P, rfl, hO, k⟩ := h; rfl
  · obtain ⟨pa, R, P, rfl, hO, k⟩ := h
    refine ⟨_, (pss_cons (ps_set (i := 1) sc_Lright.nd rfl (Or.inl rfl) (pe_tup (pa_cons (pe_op op_add pe_int (pe_call G_Ldraw (hr.mono (by decide)) rfl T.g_Ldraw T.F_Ldraw.kp T.b_Ldraw .nil pass0 (pa_cons (pv 0) (pa_cons pe_int pa_nil)))) (pa_cons (pe_op op_add pe_int (pe_call G_Ldraw (hr.mono (by decide)) rfl T.g_Ldraw T.F_Ldraw.kp T.b_Ldraw .nil pass0 (pa_cons (pv 0) (pa_cons pe_int pa_nil)))) pa_nil))))
        (pss_cons (ps_asg (pe_tup (pa_cons (pe_make T.mk_Queues G_Queues_init (hr.mono (by decide)) rfl T.g_Queues T.b_Queues_init .nil pass0 (pa_cons (pe_ix ix_tup (pv 1) pe_int (fun _ _ => rfl)) (pa_cons (pe_ix ix_tup (pv 1) pe_int (fun _ _ => rfl)) pa_nil))) (pa_cons (pe_lst pa_nil) (pa_cons (pe_lst pa_nil) (pa_cons (pe_call G_Ldraw (hr.mono (by decide)) rfl T.g_Ldraw T.F_Ldraw.kp T.b_Ldraw .nil pass0 (pa_cons (pv 0) (pa_cons pe_int pa_nil))) pa_nil))))) (pg_tup rfl (pgs_cons (pg_name (i := 2) sc_Lright.nd rfl (Or.inl rfl)) (pgs_cons (pg_name (i := 3) sc_Lright.nd rfl (Or.inl rfl)) (pgs_cons (pg_name (i := 4) sc_Lright.nd rfl (Or.inl rfl)) (pgs_cons (pg_name (i := 5) sc_Lright.nd rfl (Or.inl rfl)) pgs_nil))))))
        (pss_cons (ps_forS PassesOwn.never rfl (pi_range1 rfl T.m_range (pa_cons pe_int pa_nil)) (pg_name (i := 6) sc_Lright.nd rfl (Or.inl rfl))
          (pss_cons (ps_par (i := 7) (j := 8) rfl sc_Lright.nd rfl rfl (by decide) rfl rfl (pa_cons (pe_meth0 (pv 2) T.cl_Queues T.me_Queues_copy G_Queues_copy (hr.mono (by decide)) T.b_Queues_copy .nil pass0) (pa_cons (pe_tup (pa_cons (pe_callTy call_list_of (by rfl) T.m_list (by decide +kernel) (pa_cons (pv 3) pa_nil)) (pa_cons (pe_callTy call_list_of (by rfl) T.m_list (by decide +kernel) (pa_cons (pv 4) pa_nil)) pa_nil))) pa_nil)) (by rfl))
          (pss_cons (ps_if (pt_not (pt_val (pe_call G_Ldeed (hr.mono (by decide)) rfl T.g_Ldeed T.F_Ldeed.kp T.b_Ldeed .nil pass0 (pa_cons (pv 0) (pa_cons (pv 2) (pa_cons (pv 1) (pa_cons (pv 3) (pa_cons (pv 4) (pa_cons (pv 5) pa_nil)))))))))
            (pss_one (ps_ret pe_bl))
            pss_nil)
          (pss_cons (ps_if (pt_not (pt_val (pe_call G_Ltold_right (hr.mono (by decide)) rfl T.g_Ltold_right T.F_Ltold_right.kp T.b_Ltold_right .nil pass0 (pa_cons (pv 2) (pa_cons (pv 1) (pa_cons (pv 3) (pa_cons (pv 4) pa_nil)))))))
            (pss_one (ps_ret pe_bl))
            pss_nil)
          (pss_cons (ps_if (PW.pt (pw_or (pt_cmpR (op_neS hr.units) (pe_meth0 (pv 7) T.cl_Queues T.me_Queues_loads G_Queues_loads (hr.mono (by decide)) T.b_Queues_loads .nil pass0) (pe_ix ix_tup (pv 8) pe_int (fun _ _ => rfl)) (nomark _)) (pw_or1 (pt_cmpR (op_neS hr.units) (pe_meth0 (pv 7) T.cl_Queues T.me_Queues_stores G_Queues_stores (hr.mono (by decide)) T.b_Queues_stores .nil pass0) (pe_ix ix_tup (pv 8) pe_int (fun _ _ => rfl)) (nomark _)))))
            (pss_one (ps_ret pe_bl))
            pss_nil)
          (pss_cons (ps_set (i := 9) sc_Lright.nd rfl (Or.inl rfl) (pe_cmpR (op_stop (op_eqD hr.units)) (pv 8) (pe_tup (pa_cons (pv 3) (pa_cons (pv 4) pa_nil))) (nomark _)))
          (pss_cons (ps_if (PW.pt (pw_or (pt_cmpR op_ne (pe_cmpR (op_stop (op_eqOwn G_Queues_eq (hr.mono (by decide)) T.me_Queues_eq.at_ T.me_Queues_eq.fn T.b_Queues_eq)) (pv 7) (pv 2) (nomark _)) (pv 9) (nomark _)) (pw_or1 (pt_cmpR (op_stop (op_neOwn G_Queues_eq (hr.mono (by decide)) T.me_Queues_eq.at_ T.me_Queues_eq.fn T.b_Queues_eq T.ne_Queues T.so_Queues)) (pv 2) (pe_meth0 (pv 2) T.cl_Queues T.me_Queues_copy G_Queues_copy (hr.mono (by decide)) T.b_Queues_copy .nil pass0) (nomark _)))))
            (pss_one (ps_ret pe_bl))
            pss_nil)
          (pss_one (ps_set (i := 5) sc_Lright.nd rfl (Or.inl rfl) (pe_op op_add (pe_op op_add (pv 5) pe_int) (pe_call G_Ldraw (hr.mono (by decide)) rfl T.g_Ldraw T.F_Ldraw.kp T.b_Ldraw .nil pass0 (pa_cons (pv 0) (pa_cons pe_int pa_nil)))))))))))))
        (pss_cons (ps_expr (pe_bm PySem.F.plainAttrs_list PySem.F.slot_list_append PySem.F.type_list_append mt_append (pe_meth0 (pv 2) T.cl_Queues T.me_Queues_loads G_Queues_loads (hr.mono (by decide)) T.b_Queues_loads .nil pass0) (pa_cons pe_non pa_nil)))
        (pss_cons (ps_expr (pe_bm PySem.F.plainAttrs_list PySem.F.slot_list_append PySem.F.type_list_append mt_append (pe_meth0 (pv 2) T.cl_Queues T.me_Queues_stores G_Queues_stores (hr.mono (by decide)) T.b_Queues_stores .nil pass0) (pa_cons pe_non pa_nil)))
        (pss_cons (ps_if (PW.pt (pw_or (pt_cmpR (op_neS hr.units) (pe_meth0 (pv 2) T.cl_Queues T.me_Queues_loads G_Queues_loads (hr.mono (by decide)) T.b_Queues_loads .nil pass0) (pv 3) (nomark _)) (pw_or (pt_cmpR (op_neS hr.units) (pe_meth0 (pv 2) T.cl_Queues T.me_Queues_stores G_Queues_stores (hr.mono (by decide)) T.b_Queues_stores .nil pass0) (pv 4) (nomark _)) (pw_or1 (pt_cmpR (op_stop (op_eqOwnL G_Queues_eq (hr.mono (by decide)) T.me_Queues_eq.at_ T.me_Queues_eq.fn T.b_Queues_eq T.sl_Queues)) (pv 2) (pv 3) (nomark _))))))
          (pss_one (ps_ret pe_bl))
          pss_nil)
        (pss_one (ps_ret (pe_cmpR (op_stop (op_neOwn G_Queues_eq (hr.mono (by decide)) T.me_Queues_eq.at_ T.me_Queues_eq.fn T.b_Queues_eq T.ne_Queues T.so_Queues)) (pe_make T.mk_Queues G_Queues_init (hr.mono (by decide)) rfl T.g_Queues T.b_Queues_init .nil pass0 (pa_cons (pe_ix ix_tup (pv 1) pe_int (fun _ _ => rfl)) (pa_cons (pe_ix ix_tup (pv 1) pe_int (fun _ _ => rfl)) pa_nil))) (pe_make T.mk_Queues G_Queues_init (hr.mono (by decide)) rfl T.g_Queues T.b_Queues_init .nil pass0 (pa_cons (pe_op op_add (pe_ix ix_tup (pv 1) pe_int (fun _ _ => rfl)) pe_int) (pa_cons (pe_ix ix_tup (pv 1) pe_int (fun _ _ => rfl)) pa_nil))) (nomark _)))))))))), ?_⟩
    clear G_Ldraw G_Queues_init G_Queues_copy G_Ldeed G_Ltold_right G_Queues_stores G_Queues_loads G_Queues_eq
    clear hr
    walk_at "go"
    intro d1 H1 a0 a1 hO
    walk_at "go"
    intro d2 H2 b0 b1 hO
    walk_at "go"
    walk_at "mk"
    walk_at "go"
    intro l0 s0 H3 hO
    walk_at "go"
    intro nx0 H4 c0 c1 hO
    walk_at "go"
    refine keepP hO (List.mem_cons_of_mem _ List.mem_cons_self) fun P0 mP0 hO => ?_
    refine ⟨for_range (n := ((26 : Int)).toNat) (fun i σ H' => Stop (∃ (rm dl ds l s : Addr) (t6 t7 t8 t9 : Option V) (nx : Int) (ls ss : List QR) (P' : List Pf), σ = [some (.ref pa), some (.ref rm), some (.ref p1), some (.ref dl), some (.ref ds), some (.int nx), t6, t7, t8, t9] ∧ Pf.tup rm [.int (1 + d1), .int (1 + d2)] ∈ P' ∧ 0 ≤ nx ∧ Iv (1 + d1) (1 + d2) nx ls ss ∧ Own K H' (pt pa ++ (qu T.C_Queues p1 p2 l s (1 + d1) (1 + d2) ls ss ++ ((dl, .L (ls.map rD)) :: (ds, .L (ss.map rD)) :: R))) P')) ⟨⟨_, _, _, l0, s0, none, none, none, none, nx0, [], [], P0, rfl, mP0, c0, Iv.start ⟨by omega, by omega⟩ ⟨by omega, by omega⟩, ?_⟩⟩ (fun i σ H' hi h => ?_) (fun σ H' h => ?_)⟩
    · walk_at "fin"
      all_goals exact Dv.nil
    · clear hO
      obtain ⟨rm, dl, ds, l, s, t6, t7, t8, t9, nx, ls, ss, P', rfl, mrm, hn0, hI, hO⟩ := h.h
      clear h
      have hla := hI.la
      have hsb := hI.sb
      have hra := hI.ra
      have hrb := hI.rb
      have hl1 : ls.length ≤ 100 := by omega
      have hs1 : ss.length ≤ 100 := by omega
      walk_at "go"
      intro y dy l' s' H5 P5 sp5 hO
      obtain ⟨vl, o1⟩ := hO.openL (a := dl) (by walk_at "mem")
      replace hO := o1 _ (by walk_at "setat")
      clear o1
      have hvl : vl.length = ls.length := by
        have := (hO.pdp List.mem_cons_self).len
        rwa [List.length_map] at this
      obtain ⟨vs, o2⟩ := hO.openL (a := ds) (by walk_at "mem")
      replace hO := o2 _ (by walk_at "setat")
      clear o2
      have hvs : vs.length = ss.length := by
        have := (hO.pdp List.mem_cons_self).len
        rwa [List.length_map] at this
      replace hO := hO.derive (q := .tup rm [.int (1 + d1), .int (1 + d2)]) fun M h => h _ (List.mem_cons_of_mem _ (List.mem_cons_of_mem _ (sp5 _ mrm)))
      have szl : vl.length ≤ sizeLine := size_le (by omega)
      have szs : vs.length ≤ sizeLine := size_le (by omega)
      walk_at "go"
      · walk_at "mem"
      rename_i q1 _ _ q2 _ _
      refine ⟨hn0, hI, ?_⟩
      intro l2 s2 ls2 ss2 H6 P6 sp6 hI2 hO
      have sp56 : Ps P5 P6 := (Ps.skip (Ps.skip (Ps.skip (Ps.skip Ps.refl)))).trans sp6
      have mp : Pf.tup p [.ref q1, .ref q2] ∈ P6 := sp6 _ List.mem_cons_self
      have mvl : Pf.dp vl (ls.map rD) ∈ P6 := sp6 _ (by walk_at "mem")
      have mvs : Pf.dp vs (ss.map rD) ∈ P6 := sp6 _ (by walk_at "mem")
      clear sp6
      replace hO : Own K H6 ((q1, .L (ls.map rD)) :: (q2, .L (ss.map rD)) :: (qu T.C_Queues y dy l' s' (1 + d1) (1 + d2) ls ss ++ (qu T.C_Queues p1 p2 l2 s2 (1 + d1) (1 + d2) ls2 ss2 ++ (pt pa ++ ((dl, .L (ls2.map rD)) :: (ds, .L (ss2.map rD)) :: R))))) P6 := by
        refine Own.sub hO ?_ Ps.refl
        walk_at "sbL"
        all_goals first | exact Dv.of mvl | exact Dv.of mvs
      replace mrm := sp56 _ (sp5 _ mrm)
      replace hO := hO.derive (q := .tup rm [.int (1 + d1), .int (1 + d2)]) fun M h => h _ mrm
      have hla2 := hI2.la
      have hsb2 := hI2.sb
      have hl2 : ls2.length ≤ 100 := by omega
      have hs2 : ss2.length ≤ 100 := by omega
      have hpos : ∀ z ∈ qkeys ls2, 0 ≤ z := fun z hz => (hI2.lo z (List.mem_append_left _ hz)).1
      walk_at "go"
      · walk_at "mem"
      refine ⟨hl2, hs2, hpos, ?_⟩
      intro H7 P7 sp7 hO
      walk_at "go"
      intro r1 H8 P8 sp8 hO
      replace hO := hO.derive (q := .tup p [.ref q1, .ref q2]) fun M h => h _ (sp8 _ (sp7 _ (List.mem_cons_of_mem _ mp)))
      have S1 := sh_rows ls
      have S2 := sh_rows ss
      walk_at "go"
      intro r2 H9 P9 sp9 hO
      replace hO := hO.derive (q := .tup p [.ref q1, .ref q2]) fun M h => h _ (sp9 _ List.mem_cons_self)
      walk_at "go"
      refine ⟨⟨.tuple [.list (ls.map rD), .list (ss.map rD)], .tuple [.list (ls2.map rD), .list (ss2.map rD)], Dp.tup (SqT.of (hO.ptup (by walk_at "mem"))) (.cons (hO.dpL (by walk_at "mem")) (.cons (hO.dpL (by walk_at "mem")) .nil)), Dp.tup (SqT.of (hO.ptup (by walk_at "mem"))) (.cons (hO.dpL (by walk_at "mem")) (.cons (hO.dpL (by walk_at "mem")) .nil)), sh_both _ _, sh_both _ _, ?_⟩⟩
      rw [eqv_both]
      clear S1 S2
      walk_at "go"
      obtain ⟨P1, sp10, hE⟩ : ∃ P1, Ps P9 P1 ∧ Own K H1 (qu T.C_Queues y dy l' s' (1 + d1) (1 + d2) ls ss ++ (qu T.C_Queues p1 p2 l2 s2 (1 + d1) (1 + d2) ls2 ss2 ++ (pt pa ++ ((dl, .L (ls2.map rD)) :: (ds, .L (ss2.map rD)) :: R)))) P1 := ⟨_, Ps.skip (Ps.skip Ps.refl), Own.sub hO (by walk_at "sbL") Ps.refl⟩
      clear hO
      have hO := hE
      clear hE
      refine ⟨eqQ_use hO ⟨_, rfl, ?_⟩⟩
      rw [eqQ_rows hI.al hI.as hI2.al hI2.as]
      generalize decide (ls = ls2 ∧ ss = ss2) = same
      walk_at "go"
      refine iteN (fun h => absurd rfl h) (fun _ => ?_)
      walk_at "go"
      intro z dz l3 s3 H11 P11 sp11 hO
      walk_at "go"
      obtain ⟨P12, sp12, hE⟩ : ∃ P12, Ps P11 P12 ∧ Own K H11 (qu T.C_Queues p1 p2 l2 s2 (1 + d1) (1 + d2) ls2 ss2 ++ (qu T.C_Queues z dz l3 s3 (1 + d1) (1 + d2) ls2 ss2 ++ (pt pa ++ ((dl, .L (ls2.map rD)) :: (ds, .L (ss2.map rD)) :: R)))) P12 := ⟨_, Ps.refl, Own.sub hO (by walk_at "sbL") Ps.refl⟩
      clear hO
      have hO := hE
      clear hE
      refine ⟨eqQ_use hO ⟨_, rfl, ?_⟩⟩
      rw [eqQ_self hI2.al hI2.as]
      walk_at "go"
      intro dn H13 n0 n1 hO
      walk_at "go"
      refine ⟨⟨rm, dl, ds, l2, s2, _, _, _, _, _, ls2, ss2, P12, rfl, sp12 _ (sp11 _ (sp10 _ (sp9 _ (List.mem_cons_of_mem _ (sp8 _ (sp7 _ (List.mem_cons_of_mem _ mrm))))))), by omega, hI2.up _ (by omega), ?_⟩⟩
      walk_at "fin"
    · clear hO
      obtain ⟨rm, dl, ds, l, s, t6, t7, t8, t9, nx, ls, ss, P', rfl, mrm, hn0, hI, hO⟩ := h.h
      clear h
      have hla := hI.la
      have hsb := hI.sb
      have hra := hI.ra
      have hrb := hI.rb
      have hl1 : ls.length ≤ 100 := by omega
      have hs1 : ss.length ≤ 100 := by omega
      replace hO := hO.derive (q := .tup rm [.int (1 + d1), .int (1 + d2)]) fun M h => h _ mrm
      walk_at "go"
      intro r1 H5 P5 sp5 hO
      obtain ⟨v1, o1⟩ := hO.openL (a := r1) (by walk_at "mem")
      replace hO := o1 _ (by walk_at "setat")
      clear o1
      have hv1 : v1.length = ls.length := by
        have := (hO.pdp List.mem_cons_self).len
        rwa [List.length_map] at this
      have sz1 : v1.length < sizeLine := size_lt (by omega)
      walk_at "go"
      intro r2 H6 P6 sp6 hO
      obtain ⟨v2, o1⟩ := hO.openL (a := r2) (by walk_at "mem")
      replace hO := o1 _ (by walk_at "setat")
      clear o1
      have hv2 : v2.length = ss.length := by
        have := (hO.pdp List.mem_cons_self).len
        rwa [List.length_map] at this
      have sz2 : v2.length < sizeLine := size_lt (by omega)
      walk_at "go"
      intro r3 H7 P7 sp7 hO
      have S1 := sh_rows ls
      have S2 := sh_rows ss
      walk_at "go"
      intro r4 H8 P8 sp8 hO
      walk_at "go"
      have mrm8 : Pf.tup rm [.int (1 + d1), .int (1 + d2)] ∈ P8 := sp8 _ (sp7 _ (List.mem_cons_of_mem _ (sp6 _ (List.mem_cons_of_mem _ (sp5 _ List.mem_cons_self)))))
      obtain ⟨P9, mrm9, hE⟩ : ∃ P9, Pf.tup rm [.int (1 + d1), .int (1 + d2)] ∈ P9 ∧ Own K H8 (qu T.C_Queues p1 p2 l s (1 + d1) (1 + d2) ls ss ++ (pt pa ++ ((dl, .L (ls.map rD)) :: (ds, .L (ss.map rD)) :: R))) P9 := ⟨_, mrm8, Own.sub hO (by walk_at "sbL") Ps.refl⟩
      clear hO S1 S2
      have hO := hE
      clear hE
      obtain ⟨xs, hx, _⟩ := hO.lst (a := dl) (ds := ls.map rD) (by simp [qu, pt])
      refine ⟨eqQL_use hO hx ⟨_, rfl, ?_⟩⟩
      replace hO := hO.derive (q := .tup rm [.int (1 + d1), .int (1 + d2)]) fun M h => h _ mrm9
      walk_at "go"
      walk_at "mk"
      walk_at "go"
      intro l5 s5 H10 hO
      generalize p1 = u1 at *
      generalize p2 = u2 at *
      walk_at "go"
      walk_at "mk"
      walk_at "go"
      intro l6 s6 H11 hO
      walk_at "go"
      have hE : Own K H11 (qu T.C_Queues u1 u2 l5 s5 (1 + d1) (1 + d2) [] [] ++ (qu T.C_Queues p1 p2 l6 s6 (1 + d1 + 1) (1 + d2) [] [] ++ [])) [] := Own.sub hO (by walk_at "sbL") Ps.nil
      refine ⟨eqQ_use hE ⟨_, rfl, ?_⟩⟩
      rw [eqQ_no]
      exact k _
end
end K76

set_option Elab.async false
set_option linter.all false
set_option maxRecDepth 100000
set_option maxHeartbeats 8000000

namespace K76
open PySem PySem.Spec PyProof.Rows L2 Hx 
local macro_rules | `(tactic| walk_at "sm") => `(tactic| repeat' (first | assumption | apply Hx.Same.upd | exact L2.Same.refl _ | apply same_trans'))
local macro_rules | `(tactic| walk_at "hp") => `(tactic| repeat' (first | assumption | exact upd_same | apply old_upd | apply same_at))
local macro_rules | `(tactic| walk_at "rd") => `(tactic| repeat' (first | rfl | apply Exists.intro | apply And.intro | refine iteT ?_ | refine iteF ?_ | exact upd_same | exact SqL.of (by assumption) | exact SqL.of upd_same | exact SqT.of upd_same | exact SqT.of (by assumption) | ((with_reducible show (_ : Int) < _); omega) | ((with_reducible show (_ : Int) ≤ _); omega) | (show (_ : Prop); assumption) | exact Or.inl ⟨_, by assumption, rfl⟩ | exact Or.inl ⟨rfl, _, SqL.of (by assumption)⟩ | exact Or.inl ⟨rfl, _, SqL.of upd_same⟩ | apply old_upd | apply Hx.SqL.new | apply tyl_new | apply Pot.new | exact same_at (by assumption) (by assumption) | exact Or.inl (SqL.of (by assumption)) | exact Or.inl (by assumption) | exact Or.inl (SqL.of upd_same) | exact size_le (Nat.le_of_ble_eq_true rfl) | exact Nat.le_of_ble_eq_true rfl | exact True.intro | exact Or.inl rfl | exact Or.inr rfl | (show (_ : Prop); omega) | (show (_ : Prop); dsimp only; omega) | exact mulw64 (by omega) (by omega) | exact mulw64 (by (try dsimp only); omega) (by (try dsimp only); omega)))
set_option hygiene false in
local macro_rules | `(tactic| walk_at "fl") => `(tactic| simp only [pu_Queues_load_rooms, pi_Queues_load_rooms, pu_Queues_store_rooms, pi_Queues_store_rooms, pu_Queues_loads, pi_Queues_loads, pu_Queues_stores, pi_Queues_stores] at hO)
local macro_rules | `(tactic| walk_at "mem") => `(tactic| ((repeat (first | exact List.Mem.head _ | apply List.Mem.tail | fail)); done))
local macro_rules | `(tactic| walk_at "setat") => `(tactic| ((repeat (first | (with_reducible exact At.head) | (with_reducible apply At.tail) | (with_reducible apply At.app) | fail)); done))
set_option hygiene false in
local macro_rules | `(tactic| walk_at "dv") => `(tactic| ((repeat' (first | exact Dv.nil | exact Dv.of (by walk_at "mem") | exact Dv.ints _ | exact Dv1.of (by walk_at "mem") | exact Dv1.int _ | exact Dv1.non | exact Dv1.bl _ | exact Dv1.str _ | (with_reducible apply Dv.cons) | refine Dv1.tup (by walk_at "mem") ?_ | refine Dv1.lst (by walk_at "mem") ?_ | (with_reducible apply Dv.app) | fail)); done))
local macro_rules | `(tactic| walk_at "ft") => `(tactic| (first | (with_reducible exact Ft.refl) | ((with_reducible apply Ft.toL); focus walk_at "dv") | ((with_reducible apply Ft.toS); focus assumption) | (with_reducible apply Ft.lst) | (with_reducible apply Ft.Le) | (with_reducible apply Ft.dK) | (with_reducible apply Ft.De) | (with_reducible apply Ft.ins) | (with_reducible apply Ft.toL) | (with_reducible apply Ft.toS) | (with_reducible apply Ft.toD) | fail))
local macro_rules | `(tactic| walk_at "sbL") => `(tactic| repeat' (first | (with_reducible exact Sb.refl _) | exact Sb.nil | (with_reducible apply Sb.cons) | (with_reducible apply Sb.app) | (with_reducible exact Pk.one) | (with_reducible exact Pk.here) | (with_reducible exact Pk.all) | (with_reducible apply Pk.skip1) | (with_reducible apply Pk.skipB) | (with_reducible apply Sb.skip) | (with_reducible apply Sb.skipB) | ((with_reducible show Ft _ _ _ _); walk_at "ft") | ((with_reducible show (_ : List _) = _); (first | rfl | (simp [List.map_set, List.map_append]; done) | fail)) | fail))
local macro_rules | `(tactic| walk_at "sb") => `(tactic| ((walk_at "sbL"); done))
local macro_rules | `(tactic| walk_at "ps") => `(tactic| ((repeat' (first | (with_reducible exact Ps.refl) | exact Ps.nil | (with_reducible apply Ps.cons) | exact List.Mem.head _ | apply List.Mem.tail | (with_reducible apply Ps.skip) | fail)); done))
set_option hygiene false in
local macro_rules | `(tactic| walk_at "at") => `(tactic| first | assumption | exact Own.raw hO (by walk_at "mem") | exact Own.ptup hO (by walk_at "mem") | exact Own.plst hO (by walk_at "mem") | fail)
set_option hygiene false in
local macro_rules | `(tactic| walk_at "st") => `(tactic| (rw [upd_mkO hO]; generalize e : updX _ _ _ = H1; (first | ((apply Own.cset hO e); (focus walk_at "setat"); (try clear hO e); intro hO) | ((apply Own.cnewT hO e); (focus assumption); (try clear hO e); intro hO) | ((apply Own.cnew hO e); (focus assumption); (try clear hO e); intro hO) | fail)))
set_option hygiene false in
local macro_rules | `(tactic| walk_at "mk") => `(tactic| (intro p1 p2 f1 f2 f3; rw [upd_mkO hO]; generalize e : upd (updX _ _ _) _ _ = H1; apply Own.cmake hO f1 f2 f3 e; (try clear hO e); intro hO))
set_option hygiene false in
local macro_rules | `(tactic| walk_at "own") => `(tactic| (first | ((apply Own.sub hO); (focus walk_at "sb"); (focus walk_at "ps")) | ((apply Own.sub hF); (focus walk_at "sb"); (focus walk_at "ps")) | fail))
set_option hygiene false in
local macro_rules | `(tactic| walk_at "fin") => `(tactic| (refine Own.sub hO ?_ (by walk_at "ps"); walk_at "sbL"))
set_option hygiene false in
local macro_rules | `(tactic| walk_at "g1") => `(tactic| (first
 | ((with_reducible show (_ : Option HO) = _); walk_at "at")
 | ((with_reducible show (_ : Int) < _); omega) | ((with_reducible show (_ : Int) ≤ _); omega)
 | ((with_reducible show (_ : Nat) < _); (first | assumption | exact Nat.le_of_ble_eq_true rfl | exact size_lt (Nat.le_of_ble_eq_true rfl) | omega | (simp; done) | (simp; omega) | fail))
 | ((with_reducible show (_ : Nat) ≤ _); (first | assumption | exact Nat.le_of_ble_eq_true rfl | exact size_le (Nat.le_of_ble_eq_true rfl) | omega | (simp; done) | (simp; omega) | fail))
 | ((with_reducible show Own _ _ _ _); (first | walk_at "own" | (walk_at "st"; walk_at "own") | fail))
 | ((with_reducible show SqL _ _ _ _); (first | assumption | exact SqL.of (by walk_at "at") | fail))
 | ((with_reducible show SqT _ _ _ _); (first | assumption | exact hO.psq (by walk_at "mem") | exact SqT.of (by walk_at "at") | fail))
  | ((with_reducible show Cls _ _); exact Txt.cl_Queues T) | ((with_reducible show NoAttr _ _ _); exact Txt.n_Queues_load_rooms T) | (with_reducible exact gt_Queues_load_rooms) | ((with_reducible show NoAttr _ _ _); exact Txt.n_Queues_store_rooms T) | (with_reducible exact gt_Queues_store_rooms) | ((with_reducible show NoAttr _ _ _); exact Txt.n_Queues_loads T) | (with_reducible exact gt_Queues_loads) | ((with_reducible show NoAttr _ _ _); exact Txt.n_Queues_stores T) | (with_reducible exact gt_Queues_stores)  | ((with_reducible show V.ref _ = V.ref _); (first | rfl | fail))
 | ((with_reducible show DGet _ _ _ _); (first | exact DGet.ki (by walk_at "at") (by assumption) | exact DGet.kiF (by walk_at "at") (by assumption) | fail))
 | ((with_reducible show DPut _ _ _ _ _); exact DPut.ki (by walk_at "at") (by assumption))
 | ((with_reducible show Rd _ _ _); (first | exact Or.inl (by walk_at "at") | exact Or.inr ⟨_, by walk_at "at"⟩ | fail))
 | ((with_reducible show (∃ _ : List (Key × V), _) ∨ _); refine Or.inl ⟨_, by walk_at "at", ?_⟩)
 | ((with_reducible show Dv _ _ _ _); focus walk_at "dv") | ((with_reducible show Dv1 _ _ _ _); focus walk_at "dv")
 | ((with_reducible show IsD _ _); exact Or.inl ⟨_, Or.inl (by walk_at "at")⟩)
 | ((with_reducible show V.int _ = kV _); exact kV_int)
 | ((with_reducible show Option.isSome _ = true); (first | exact isSome_ofV (by assumption) | assumption | fail))
 | ((with_reducible show SqL _ _ _ _ ∨ SqT _ _ _ _); (first | exact Or.inl (by assumption) | exact Or.inr (by assumption) | exact Or.inl (SqL.of (by walk_at "at")) | exact Or.inr (SqT.of (by walk_at "at")) | fail))
 | ((with_reducible show Dp _ _ _ _); (first | assumption | exact hO.dpL (by walk_at "mem") | exact .lst (SqL.of (by walk_at "at")) (hO.all (by walk_at "dv")) | exact hO.one (by walk_at "dv") | fail))
 | ((with_reducible show TruV _ _ _ _); (first | exact Or.inl ⟨_, SqL.of (by walk_at "at"), rfl⟩ | exact Or.inr (Or.inr ⟨_, by walk_at "at", rfl⟩) | exact Or.inr (Or.inl ⟨_, SqT.of (by walk_at "at"), rfl⟩) | fail))
 | ((with_reducible show RgOk _ _); exact RgOk.of_le (by omega) (by omega) (by omega) (by omega))
 | rfl | (with_reducible assumption) | apply And.intro | apply Exists.intro | refine iteT ?_ | refine iteF ?_
 | (walk_at "st"; (try walk_at "fl"))
 | ((with_reducible show ∀ _ : Addr, _ = none → _); (fail_if_success (with_reducible show ∀ _ : Addr, _ = none → ∃ _ : Nat → Nat → Hp → Prop, _)); intro p fp; walk_at "st")
 | (refine Or.inl ⟨SqL.of (by walk_at "at"), ?_⟩) | (refine Or.inr ⟨SqT.of (by walk_at "at"), ?_⟩) | exact Or.inl ⟨_, by walk_at "at", rfl⟩ | exact Or.inl ⟨rfl, _, SqL.of (by walk_at "at")⟩ | exact tyl_of (by walk_at "at") | exact Or.inl (SqL.of (by walk_at "at")) | exact Or.inr (SqT.of (by walk_at "at")) | exact Or.inl (by walk_at "at") | exact size_le (Nat.le_of_ble_eq_true rfl) | exact Nat.le_of_ble_eq_true rfl | exact True.intro | exact Or.inl rfl | exact Or.inr rfl | (show (_ : Prop); assumption) | (show (_ : Prop); omega) | (show (_ : Prop); dsimp only; omega) | exact mulw64 (by omega) (by omega) | exact mulw64 (by (try dsimp only); omega) (by (try dsimp only); omega) | fail))
local macro_rules | `(tactic| walk_at "go") => `(tactic| repeat walk_at "g1")

section
variable {P : Program} {w : World} {K : PySem.W.Frag} {mg : Str → Option Value} {base : Heap}
def sp_law (K : PySem.W.Frag) : Sp := fun vs H Q _ => ∃ (a : Addr) (ns : List Int), vs = [.ref a] ∧ SqL K H a (ns.map V.int) ∧ ns.length ≤ 63 ∧ ∀ H', Q (.bl true) H'
theorem ok_law (T : Txt K mg) : FnOk P w K mg base CX0 8 T.f_law T.fd_law ["_law_script"] (sp_law K) := by
  have G_Lright := ok_Lright (P := P) (w := w) (base := base) T
  have G_Lpot := ok_Lpot (P := P) (w := w) (base := base) T
  refine T.F_law.ok sc_law (fun vs H Q E h => ?_) (fun cdv A outer s H vs Q E hr h => ?_)
  · obtain ⟨a, ns, rfl, hS, hl, k⟩ := h; rfl
  · obtain ⟨a, ns, rfl, hS, hl, k⟩ := h
    refine ⟨_, (pss_one (ps_ret (pe_call G_Lright (hr.mono (by decide)) rfl T.g_Lright T.F_Lright.kp T.b_Lright .nil pass0 (pa_cons (pe_call G_Lpot (hr.mono (by decide)) rfl T.g_Lpot T.F_Lpot.kp T.b_Lpot .nil pass0 (pa_cons (pv 0) (pa_cons pe_int pa_nil))) pa_nil)))), ?_⟩
    clear G_Lright G_Lpot
    clear hr
    walk_at "rd"
    intro p H' hO
    walk_at "go"
end
end K76

set_option Elab.async false
set_option linter.all false
set_option maxRecDepth 100000
set_option maxHeartbeats 8000000

namespace K76
open PySem PySem.Spec PyProof.Rows L2 Hx
theorem all_mk {l : PySem.W.OpenLaw} {w : World} {K : PySem.W.Frag} {h : Heap} {mg : Str → Option Value} {fa : Addr} (X : K.In h) (G : h.Ns mainGlobals mg) (hfa : mg "law" = some (.ref fa))
    {C_Queues : Addr}
    {f_is_integer : Addr} {od_is_integer an_is_integer : Option Addr} {sl_is_integer : Array (Option Value)} {oc_is_integer kV_is_integer dc_is_integer pm_is_integer cd_is_integer ct_is_integer : Value}
    {f_is_count : Addr} {od_is_count an_is_count : Option Addr} {sl_is_count : Array (Option Value)} {oc_is_count kV_is_count dc_is_count pm_is_count cd_is_count ct_is_count : Value}
    {f_is_between : Addr} {od_is_between an_is_between : Option Addr} {sl_is_between : Array (Option Value)} {oc_is_between kV_is_between dc_is_between pm_is_between cd_is_between ct_is_between : Value}
    {f_need_many : Addr} {od_need_many an_need_many : Option Addr} {sl_need_many : Array (Option Value)} {oc_need_many kV_need_many dc_need_many pm_need_many cd_need_many ct_need_many : Value}
    {f_need_number : Addr} {od_need_number an_need_number : Option Addr} {sl_need_number : Array (Option Value)} {oc_need_number kV_need_number dc_need_number pm_need_number cd_need_number ct_need_number : Value}
    {f_is_word : Addr} {od_is_word an_is_word : Option Addr} {sl_is_word : Array (Option Value)} {oc_is_word kV_is_word dc_is_word pm_is_word cd_is_word ct_is_word : Value}
    {f_is_place : Addr} {od_is_place an_is_place : Option Addr} {sl_is_place : Array (Option Value)} {oc_is_place kV_is_place dc_is_place pm_is_place cd_is_place ct_is_place : Value}
    {f_need_word : Addr} {od_need_word an_need_word : Option Addr} {sl_need_word : Array (Option Value)} {oc_need_word kV_need_word dc_need_word pm_need_word cd_need_word ct_need_word : Value}
    {f_need_place : Addr} {od_need_place an_need_place : Option Addr} {sl_need_place : Array (Option Value)} {oc_need_place kV_need_place dc_need_place pm_need_place cd_need_place ct_need_place : Value}
    {f_Queues_init : Addr} {od_Queues_init an_Queues_init : Option Addr} {sl_Queues_init : Array (Option Value)} {oc_Queues_init kV_Queues_init dc_Queues_init pm_Queues_init cd_Queues_init ct_Queues_init : Value}
    {f_Queues_can_load : Addr} {od_Queues_can_load an_Queues_can_load : Option Addr} {sl_Queues_can_load : Array (Option Value)} {oc_Queues_can_load kV_Queues_can_load dc_Queues_can_load pm_Queues_can_load cd_Queues_can_load ct_Queues_can_load : Value}
    {pa_Queues_can_load : Addr} {pr_Queues_can_load : List Value}
    {f_Queues_can_store : Addr} {od_Queues_can_store an_Queues_can_store : Option Addr} {sl_Queues_can_store : Array (Option Value)} {oc_Queues_can_store kV_Queues_can_store dc_Queues_can_store pm_Queues_can_store cd_Queues_can_store ct_Queues_can_store : Value}
    {pa_Queues_can_store : Addr} {pr_Queues_can_store : List Value}
    {f_Queues_load_entered : Addr} {od_Queues_load_entered an_Queues_load_entered : Option Addr} {sl_Queues_load_entered : Array (Option Value)} {oc_Queues_load_entered kV_Queues_load_entered dc_Queues_load_entered pm_Queues_load_entered cd_Queues_load_entered ct_Queues_load_entered : Value}
    {f_Queues_store_entered : Addr} {od_Queues_store_entered an_Queues_store_entered : Option Addr} {sl_Queues_store_entered : Array (Option Value)} {oc_Queues_store_entered kV_Queues_store_entered dc_Queues_store_entered pm_Queues_store_entered cd_Queues_store_entered ct_Queues_store_entered : Value}
    {f_Queues_known : Addr} {od_Queues_known an_Queues_known : Option Addr} {sl_Queues_known : Array (Option Value)} {oc_Queues_known kV_Queues_known dc_Queues_known pm_Queues_known cd_Queues_known ct_Queues_known : Value}
    {f_Queues_source : Addr} {od_Queues_source an_Queues_source : Option Addr} {sl_Queues_source : Array (Option Value)} {oc_Queues_source kV_Queues_source dc_Queues_source pm_Queues_source cd_Queues_source ct_Queues_source : Value}
    {f_Queues_read : Addr} {od_Queues_read an_Queues_read : Option Addr} {sl_Queues_read : Array (Option Value)} {oc_Queues_read kV_Queues_read dc_Queues_read pm_Queues_read cd_Queues_read ct_Queues_read : Value}
    {f_Queues_leave : Addr} {od_Queues_leave an_Queues_leave : Option Addr} {sl_Queues_leave : Array (Option Value)} {oc_Queues_leave kV_Queues_leave dc_Queues_leave pm_Queues_leave cd_Queues_leave ct_Queues_leave : Value}
    {f_Queues_dropped : Addr} {od_Queues_dropped an_Queues_dropped : Option Addr} {sl_Queues_dropped : Array (Option Value)} {oc_Queues_dropped kV_Queues_dropped dc_Queues_dropped pm_Queues_dropped cd_Queues_dropped ct_Queues_dropped : Value}
    {f_Queues_loads : Addr} {od_Queues_loads an_Queues_loads : Option Addr} {sl_Queues_loads : Array (Option Value)} {oc_Queues_loads kV_Queues_loads dc_Queues_loads pm_Queues_loads cd_Queues_loads ct_Queues_loads : Value}
    {f_Queues_stores : Addr} {od_Queues_stores an_Queues_stores : Option Addr} {sl_Queues_stores : Array (Option Value)} {oc_Queues_stores kV_Queues_stores dc_Queues_stores pm_Queues_stores cd_Queues_stores ct_Queues_stores : Value}
    {f_Queues_copy : Addr} {od_Queues_copy an_Queues_copy : Option Addr} {sl_Queues_copy : Array (Option Value)} {oc_Queues_copy kV_Queues_copy dc_Queues_copy pm_Queues_copy cd_Queues_copy ct_Queues_copy : Value}
    {f_Queues_eq : Addr} {od_Queues_eq an_Queues_eq : Option Addr} {sl_Queues_eq : Array (Option Value)} {oc_Queues_eq kV_Queues_eq dc_Queues_eq pm_Queues_eq cd_Queues_eq ct_Queues_eq : Value}
    {f_Queuesall_numbers : Addr} {od_Queuesall_numbers an_Queuesall_numbers : Option Addr} {sl_Queuesall_numbers : Array (Option Value)} {oc_Queuesall_numbers kV_Queuesall_numbers dc_Queuesall_numbers pm_Queuesall_numbers cd_Queuesall_numbers ct_Queuesall_numbers : Value}
    {f_Queuesneed_above_all : Addr} {od_Queuesneed_above_all an_Queuesneed_above_all : Option Addr} {sl_Queuesneed_above_all : Array (Option Value)} {oc_Queuesneed_above_all kV_Queuesneed_above_all dc_Queuesneed_above_all pm_Queuesneed_above_all cd_Queuesneed_above_all ct_Queuesneed_above_all : Value}
    {f_Queuesis_source : Addr} {od_Queuesis_source an_Queuesis_source : Option Addr} {sl_Queuesis_source : Array (Option Value)} {oc_Queuesis_source kV_Queuesis_source dc_Queuesis_source pm_Queuesis_source cd_Queuesis_source ct_Queuesis_source : Value}
    {f__is_one_of : Addr} {od__is_one_of an__is_one_of : Option Addr} {sl__is_one_of : Array (Option Value)} {oc__is_one_of kV__is_one_of dc__is_one_of pm__is_one_of cd__is_one_of ct__is_one_of : Value}
    {f__need_one_of : Addr} {od__need_one_of an__need_one_of : Option Addr} {sl__need_one_of : Array (Option Value)} {oc__need_one_of kV__need_one_of dc__need_one_of pm__need_one_of cd__need_one_of ct__need_one_of : Value}
    {f_Lpot : Addr} {od_Lpot an_Lpot : Option Addr} {sl_Lpot : Array (Option Value)} {oc_Lpot kV_Lpot dc_Lpot pm_Lpot cd_Lpot ct_Lpot : Value}
    {f_Ldraw : Addr} {od_Ldraw an_Ldraw : Option Addr} {sl_Ldraw : Array (Option Value)} {oc_Ldraw kV_Ldraw dc_Ldraw pm_Ldraw cd_Ldraw ct_Ldraw : Value}
    {f_Lpick : Addr} {od_Lpick an_Lpick : Option Addr} {sl_Lpick : Array (Option Value)} {oc_Lpick kV_Lpick dc_Lpick pm_Lpick cd_Lpick ct_Lpick : Value}
    {f_Lsource : Addr} {od_Lsource an_Lsource : Option Addr} {sl_Lsource : Array (Option Value)} {oc_Lsource kV_Lsource dc_Lsource pm_Lsource cd_Lsource ct_Lsource : Value}
    {f_Learly : Addr} {od_Learly an_Learly : Option Addr} {sl_Learly : Array (Option Value)} {oc_Learly kV_Learly dc_Learly pm_Learly cd_Learly ct_Learly : Value}
    {f_Ltold_right : Addr} {od_Ltold_right an_Ltold_right : Option Addr} {sl_Ltold_right : Array (Option Value)} {oc_Ltold_right kV_Ltold_right dc_Ltold_right pm_Ltold_right cd_Ltold_right ct_Ltold_right : Value}
    {f_Ldeed : Addr} {od_Ldeed an_Ldeed : Option Addr} {sl_Ldeed : Array (Option Value)} {oc_Ldeed kV_Ldeed dc_Ldeed pm_Ldeed cd_Ldeed ct_Ldeed : Value}
    {f_Lright : Addr} {od_Lright an_Lright : Option Addr} {sl_Lright : Array (Option Value)} {oc_Lright kV_Lright dc_Lright pm_Lright cd_Lright ct_Lright : Value}
    {f_law : Addr} {od_law an_law : Option Addr} {sl_law : Array (Option Value)} {oc_law kV_law dc_law pm_law cd_law ct_law : Value}
    {t_WORDS : Tok}
    {t_PLACES : Tok}
    {t__MOST_ROOMS : Tok}
    {aN : Addr} {nN : Nat}
    
    (aC_Queues : PySem.W.nsIn K mainGlobals "Queues" = some (some (.ref C_Queues))) (pg_Queues : PySem.W.plainGet K C_Queues Str.empty = true) (hd_Queues : PySem.W.hasDictIn K C_Queues = true) (po_Queues : PySem.W.plainOver K C_Queues = true) (sa_Queues : PySem.W.findIn K (.ref C_Queues) "__setattr__" = some (some (.builtin "object.__setattr__"))) (mk_Queues : PySem.W.makesIn K C_Queues = true) (kc_Queues : PySem.W.keepIn K (.ref C_Queues) = true)
    (n_Queues_load_rooms : PySem.W.findIn K (.ref C_Queues) "_load_rooms" = some none)
    (n_Queues_store_rooms : PySem.W.findIn K (.ref C_Queues) "_store_rooms" = some none)
    (n_Queues_loads : PySem.W.findIn K (.ref C_Queues) "_loads" = some none)
    (n_Queues_stores : PySem.W.findIn K (.ref C_Queues) "_stores" = some none)
    (a_is_integer : PySem.W.nsIn K mainGlobals "is_integer" = some (some (.ref f_is_integer)))
    (l_is_integer : K.lookup f_is_integer = some ⟨oc_is_integer, od_is_integer, .func (PySem.W.fnOf "is_integer" "is_integer" (defArgs s_is_integer) (defBody s_is_integer) (defScope s_is_integer) .none kV_is_integer dc_is_integer pm_is_integer an_is_integer cd_is_integer ct_is_integer), sl_is_integer⟩)
    (c_is_integer : PySem.W.codeIn K cd_is_integer "is_integer" = true) (k_is_integer : PySem.W.keepIn K (.ref f_is_integer) = true)
    (a_is_count : PySem.W.nsIn K mainGlobals "is_count" = some (some (.ref f_is_count)))
    (l_is_count : K.lookup f_is_count = some ⟨oc_is_count, od_is_count, .func (PySem.W.fnOf "is_count" "is_count" (defArgs s_is_count) (defBody s_is_count) (defScope s_is_count) .none kV_is_count dc_is_count pm_is_count an_is_count cd_is_count ct_is_count), sl_is_count⟩)
    (c_is_count : PySem.W.codeIn K cd_is_count "is_count" = true) (k_is_count : PySem.W.keepIn K (.ref f_is_count) = true)
    (a_is_between : PySem.W.nsIn K mainGlobals "is_between" = some (some (.ref f_is_between)))
    (l_is_between : K.lookup f_is_between = some ⟨oc_is_between, od_is_between, .func (PySem.W.fnOf "is_between" "is_between" (defArgs s_is_between) (defBody s_is_between) (defScope s_is_between) .none kV_is_between dc_is_between pm_is_between an_is_between cd_is_between ct_is_between), sl_is_between⟩)
    (c_is_between : PySem.W.codeIn K cd_is_between "is_between" = true) (k_is_between : PySem.W.keepIn K (.ref f_is_between) = true)
    (a_need_many : PySem.W.nsIn K mainGlobals "need_many" = some (some (.ref f_need_many)))
    (l_need_many : K.lookup f_need_many = some ⟨oc_need_many, od_need_many, .func (PySem.W.fnOf "need_many" "need_many" (defArgs s_need_many) (defBody s_need_many) (defScope s_need_many) .none kV_need_many dc_need_many pm_need_many an_need_many cd_need_many ct_need_many), sl_need_many⟩)
    (c_need_many : PySem.W.codeIn K cd_need_many "need_many" = true) (k_need_many : PySem.W.keepIn K (.ref f_need_many) = true)
    (a_need_number : PySem.W.nsIn K mainGlobals "need_number" = some (some (.ref f_need_number)))
    (l_need_number : K.lookup f_need_number = some ⟨oc_need_number, od_need_number, .func (PySem.W.fnOf "need_number" "need_number" (defArgs s_need_number) (defBody s_need_number) (defScope s_need_number) .none kV_need_number dc_need_number pm_need_number an_need_number cd_need_number ct_need_number), sl_need_number⟩)
    (c_need_number : PySem.W.codeIn K cd_need_number "need_number" = true) (k_need_number : PySem.W.keepIn K (.ref f_need_number) = true)
    (a_is_word : PySem.W.nsIn K mainGlobals "is_word" = some (some (.ref f_is_word)))
    (l_is_word : K.lookup f_is_word = some ⟨oc_is_word, od_is_word, .func (PySem.W.fnOf "is_word" "is_word" (defArgs s_is_word) (defBody s_is_word) (defScope s_is_word) .none kV_is_word dc_is_word pm_is_word an_is_word cd_is_word ct_is_word), sl_is_word⟩)
    (c_is_word : PySem.W.codeIn K cd_is_word "is_word" = true) (k_is_word : PySem.W.keepIn K (.ref f_is_word) = true)
    (a_is_place : PySem.W.nsIn K mainGlobals "is_place" = some (some (.ref f_is_place)))
    (l_is_place : K.lookup f_is_place = some ⟨oc_is_place, od_is_place, .func (PySem.W.fnOf "is_place" "is_place" (defArgs s_is_place) (defBody s_is_place) (defScope s_is_place) .none kV_is_place dc_is_place pm_is_place an_is_place cd_is_place ct_is_place), sl_is_place⟩)
    (c_is_place : PySem.W.codeIn K cd_is_place "is_place" = true) (k_is_place : PySem.W.keepIn K (.ref f_is_place) = true)
    (a_need_word : PySem.W.nsIn K mainGlobals "need_word" = some (some (.ref f_need_word)))
    (l_need_word : K.lookup f_need_word = some ⟨oc_need_word, od_need_word, .func (PySem.W.fnOf "need_word" "need_word" (defArgs s_need_word) (defBody s_need_word) (defScope s_need_word) .none kV_need_word dc_need_word pm_need_word an_need_word cd_need_word ct_need_word), sl_need_word⟩)
    (c_need_word : PySem.W.codeIn K cd_need_word "need_word" = true) (k_need_word : PySem.W.keepIn K (.ref f_need_word) = true)
    (a_need_place : PySem.W.nsIn K mainGlobals "need_place" = some (some (.ref f_need_place)))
    (l_need_place : K.lookup f_need_place = some ⟨oc_need_place, od_need_place, .func (PySem.W.fnOf "need_place" "need_place" (defArgs s_need_place) (defBody s_need_place) (defScope s_need_place) .none kV_need_place dc_need_place pm_need_place an_need_place cd_need_place ct_need_place), sl_need_place⟩)
    (c_need_place : PySem.W.codeIn K cd_need_place "need_place" = true) (k_need_place : PySem.W.keepIn K (.ref f_need_place) = true)
    (a_Queues_init : PySem.W.findIn K (.ref C_Queues) "__init__" = some (some (.ref f_Queues_init)))
    (i_Queues_init : PySem.W.isFn K (.ref f_Queues_init) = true)
    (l_Queues_init : K.lookup f_Queues_init = some ⟨oc_Queues_init, od_Queues_init, .func (PySem.W.fnOf "__init__" "Queues.__init__" (defArgs s_Queues_init) (defBody s_Queues_init) (defScope s_Queues_init) .none kV_Queues_init dc_Queues_init pm_Queues_init an_Queues_init cd_Queues_init ct_Queues_init), sl_Queues_init⟩)
    (c_Queues_init : PySem.W.codeIn K cd_Queues_init "Queues.__init__" = true) (k_Queues_init : PySem.W.keepIn K (.ref f_Queues_init) = true)
    (a_Queues_can_load : PySem.W.findIn K (.ref C_Queues) "can_load" = some (some (.ref pa_Queues_can_load))) (pg_Queues_can_load : PySem.W.specialIn K (.ref pa_Queues_can_load) "__get__" = some (some (.builtin "property.__get__"))) (pt_Queues_can_load : PySem.W.takesIn K (.ref pa_Queues_can_load) = some true) (pq_Queues_can_load : PySem.W.recIn K pa_Queues_can_load "property" = some (.ref f_Queues_can_load :: pr_Queues_can_load))
    (l_Queues_can_load : K.lookup f_Queues_can_load = some ⟨oc_Queues_can_load, od_Queues_can_load, .func (PySem.W.fnOf "can_load" "Queues.can_load" (defArgs s_Queues_can_load) (defBody s_Queues_can_load) (defScope s_Queues_can_load) .none kV_Queues_can_load dc_Queues_can_load pm_Queues_can_load an_Queues_can_load cd_Queues_can_load ct_Queues_can_load), sl_Queues_can_load⟩)
    (c_Queues_can_load : PySem.W.codeIn K cd_Queues_can_load "Queues.can_load" = true) (k_Queues_can_load : PySem.W.keepIn K (.ref f_Queues_can_load) = true)
    (a_Queues_can_store : PySem.W.findIn K (.ref C_Queues) "can_store" = some (some (.ref pa_Queues_can_store))) (pg_Queues_can_store : PySem.W.specialIn K (.ref pa_Queues_can_store) "__get__" = some (some (.builtin "property.__get__"))) (pt_Queues_can_store : PySem.W.takesIn K (.ref pa_Queues_can_store) = some true) (pq_Queues_can_store : PySem.W.recIn K pa_Queues_can_store "property" = some (.ref f_Queues_can_store :: pr_Queues_can_store))
    (l_Queues_can_store : K.lookup f_Queues_can_store = some ⟨oc_Queues_can_store, od_Queues_can_store, .func (PySem.W.fnOf "can_store" "Queues.can_store" (defArgs s_Queues_can_store) (defBody s_Queues_can_store) (defScope s_Queues_can_store) .none kV_Queues_can_store dc_Queues_can_store pm_Queues_can_store an_Queues_can_store cd_Queues_can_store ct_Queues_can_store), sl_Queues_can_store⟩)
    (c_Queues_can_store : PySem.W.codeIn K cd_Queues_can_store "Queues.can_store" = true) (k_Queues_can_store : PySem.W.keepIn K (.ref f_Queues_can_store) = true)
    (a_Queues_load_entered : PySem.W.findIn K (.ref C_Queues) "load_entered" = some (some (.ref f_Queues_load_entered)))
    (i_Queues_load_entered : PySem.W.isFn K (.ref f_Queues_load_entered) = true)
    (l_Queues_load_entered : K.lookup f_Queues_load_entered = some ⟨oc_Queues_load_entered, od_Queues_load_entered, .func (PySem.W.fnOf "load_entered" "Queues.load_entered" (defArgs s_Queues_load_entered) (defBody s_Queues_load_entered) (defScope s_Queues_load_entered) .none kV_Queues_load_entered dc_Queues_load_entered pm_Queues_load_entered an_Queues_load_entered cd_Queues_load_entered ct_Queues_load_entered), sl_Queues_load_entered⟩)
    (c_Queues_load_entered : PySem.W.codeIn K cd_Queues_load_entered "Queues.load_entered" = true) (k_Queues_load_entered : PySem.W.keepIn K (.ref f_Queues_load_entered) = true)
    (a_Queues_store_entered : PySem.W.findIn K (.ref C_Queues) "store_entered" = some (some (.ref f_Queues_store_entered)))
    (i_Queues_store_entered : PySem.W.isFn K (.ref f_Queues_store_entered) = true)
    (l_Queues_store_entered : K.lookup f_Queues_store_entered = some ⟨oc_Queues_store_entered, od_Queues_store_entered, .func (PySem.W.fnOf "store_entered" "Queues.store_entered" (defArgs s_Queues_store_entered) (defBody s_Queues_store_entered) (defScope s_Queues_store_entered) .none kV_Queues_store_entered dc_Queues_store_entered pm_Queues_store_entered an_Queues_store_entered cd_Queues_store_entered ct_Queues_store_entered), sl_Queues_store_entered⟩)
    (c_Queues_store_entered : PySem.W.codeIn K cd_Queues_store_entered "Queues.store_entered" = true) (k_Queues_store_entered : PySem.W.keepIn K (.ref f_Queues_store_entered) = true)
    (a_Queues_known : PySem.W.findIn K (.ref C_Queues) "known" = some (some (.ref f_Queues_known)))
    (i_Queues_known : PySem.W.isFn K (.ref f_Queues_known) = true)
    (l_Queues_known : K.lookup f_Queues_known = some ⟨oc_Queues_known, od_Queues_known, .func (PySem.W.fnOf "known" "Queues.known" (defArgs s_Queues_known) (defBody s_Queues_known) (defScope s_Queues_known) .none kV_Queues_known dc_Queues_known pm_Queues_known an_Queues_known cd_Queues_known ct_Queues_known), sl_Queues_known⟩)
    (c_Queues_known : PySem.W.codeIn K cd_Queues_known "Queues.known" = true) (k_Queues_known : PySem.W.keepIn K (.ref f_Queues_known) = true)
    (a_Queues_source : PySem.W.findIn K (.ref C_Queues) "source" = some (some (.ref f_Queues_source)))
    (i_Queues_source : PySem.W.isFn K (.ref f_Queues_source) = true)
    (l_Queues_source : K.lookup f_Queues_source = some ⟨oc_Queues_source, od_Queues_source, .func (PySem.W.fnOf "source" "Queues.source" (defArgs s_Queues_source) (defBody s_Queues_source) (defScope s_Queues_source) .none kV_Queues_source dc_Queues_source pm_Queues_source an_Queues_source cd_Queues_source ct_Queues_source), sl_Queues_source⟩)
    (c_Queues_source : PySem.W.codeIn K cd_Queues_source "Queues.source" = true) (k_Queues_source : PySem.W.keepIn K (.ref f_Queues_source) = true)
    (a_Queues_read : PySem.W.findIn K (.ref C_Queues) "read" = some (some (.ref f_Queues_read)))
    (i_Queues_read : PySem.W.isFn K (.ref f_Queues_read) = true)
    (l_Queues_read : K.lookup f_Queues_read = some ⟨oc_Queues_read, od_Queues_read, .func (PySem.W.fnOf "read" "Queues.read" (defArgs s_Queues_read) (defBody s_Queues_read) (defScope s_Queues_read) .none kV_Queues_read dc_Queues_read pm_Queues_read an_Queues_read cd_Queues_read ct_Queues_read), sl_Queues_read⟩)
    (c_Queues_read : PySem.W.codeIn K cd_Queues_read "Queues.read" = true) (k_Queues_read : PySem.W.keepIn K (.ref f_Queues_read) = true)
    (a_Queues_leave : PySem.W.findIn K (.ref C_Queues) "leave" = some (some (.ref f_Queues_leave)))
    (i_Queues_leave : PySem.W.isFn K (.ref f_Queues_leave) = true)
    (l_Queues_leave : K.lookup f_Queues_leave = some ⟨oc_Queues_leave, od_Queues_leave, .func (PySem.W.fnOf "leave" "Queues.leave" (defArgs s_Queues_leave) (defBody s_Queues_leave) (defScope s_Queues_leave) .none kV_Queues_leave dc_Queues_leave pm_Queues_leave an_Queues_leave cd_Queues_leave ct_Queues_leave), sl_Queues_leave⟩)
    (c_Queues_leave : PySem.W.codeIn K cd_Queues_leave "Queues.leave" = true) (k_Queues_leave : PySem.W.keepIn K (.ref f_Queues_leave) = true)
    (a_Queues_dropped : PySem.W.findIn K (.ref C_Queues) "dropped" = some (some (.ref f_Queues_dropped)))
    (i_Queues_dropped : PySem.W.isFn K (.ref f_Queues_dropped) = true)
    (l_Queues_dropped : K.lookup f_Queues_dropped = some ⟨oc_Queues_dropped, od_Queues_dropped, .func (PySem.W.fnOf "dropped" "Queues.dropped" (defArgs s_Queues_dropped) (defBody s_Queues_dropped) (defScope s_Queues_dropped) .none kV_Queues_dropped dc_Queues_dropped pm_Queues_dropped an_Queues_dropped cd_Queues_dropped ct_Queues_dropped), sl_Queues_dropped⟩)
    (c_Queues_dropped : PySem.W.codeIn K cd_Queues_dropped "Queues.dropped" = true) (k_Queues_dropped : PySem.W.keepIn K (.ref f_Queues_dropped) = true)
    (a_Queues_loads : PySem.W.findIn K (.ref C_Queues) "loads" = some (some (.ref f_Queues_loads)))
    (i_Queues_loads : PySem.W.isFn K (.ref f_Queues_loads) = true)
    (l_Queues_loads : K.lookup f_Queues_loads = some ⟨oc_Queues_loads, od_Queues_loads, .func (PySem.W.fnOf "loads" "Queues.loads" (defArgs s_Queues_loads) (defBody s_Queues_loads) (defScope s_Queues_loads) .none kV_Queues_loads dc_Queues_loads pm_Queues_loads an_Queues_loads cd_Queues_loads ct_Queues_loads), sl_Queues_loads⟩)
    (c_Queues_loads : PySem.W.codeIn K cd_Queues_loads "Queues.loads" = true) (k_Queues_loads : PySem.W.keepIn K (.ref f_Queues_loads) = true)
    (a_Queues_stores : PySem.W.findIn K (.ref C_Queues) "stores" = some (some (.ref f_Queues_stores)))
    (i_Queues_stores : PySem.W.isFn K (.ref f_Queues_stores) = true)
    (l_Queues_stores : K.lookup f_Queues_stores = some ⟨oc_Queues_stores, od_Queues_stores, .func (PySem.W.fnOf "stores" "Queues.stores" (defArgs s_Queues_stores) (defBody s_Queues_stores) (defScope s_Queues_stores) .none kV_Queues_stores dc_Queues_stores pm_Queues_stores an_Queues_stores cd_Queues_stores ct_Queues_stores), sl_Queues_stores⟩)
    (c_Queues_stores : PySem.W.codeIn K cd_Queues_stores "Queues.stores" = true) (k_Queues_stores : PySem.W.keepIn K (.ref f_Queues_stores) = true)
    (a_Queues_copy : PySem.W.findIn K (.ref C_Queues) "copy" = some (some (.ref f_Queues_copy)))
    (i_Queues_copy : PySem.W.isFn K (.ref f_Queues_copy) = true)
    (l_Queues_copy : K.lookup f_Queues_copy = some ⟨oc_Queues_copy, od_Queues_copy, .func (PySem.W.fnOf "copy" "Queues.copy" (defArgs s_Queues_copy) (defBody s_Queues_copy) (defScope s_Queues_copy) .none kV_Queues_copy dc_Queues_copy pm_Queues_copy an_Queues_copy cd_Queues_copy ct_Queues_copy), sl_Queues_copy⟩)
    (c_Queues_copy : PySem.W.codeIn K cd_Queues_copy "Queues.copy" = true) (k_Queues_copy : PySem.W.keepIn K (.ref f_Queues_copy) = true)
    (a_Queues_eq : PySem.W.findIn K (.ref C_Queues) "__eq__" = some (some (.ref f_Queues_eq)))
    (i_Queues_eq : PySem.W.isFn K (.ref f_Queues_eq) = true)
    (l_Queues_eq : K.lookup f_Queues_eq = some ⟨oc_Queues_eq, od_Queues_eq, .func (PySem.W.fnOf "__eq__" "Queues.__eq__" (defArgs s_Queues_eq) (defBody s_Queues_eq) (defScope s_Queues_eq) .none kV_Queues_eq dc_Queues_eq pm_Queues_eq an_Queues_eq cd_Queues_eq ct_Queues_eq), sl_Queues_eq⟩)
    (c_Queues_eq : PySem.W.codeIn K cd_Queues_eq "Queues.__eq__" = true) (k_Queues_eq : PySem.W.keepIn K (.ref f_Queues_eq) = true)
    (a_Queuesall_numbers : PySem.W.findIn K (.ref C_Queues) "_all_numbers" = some (some (.ref f_Queuesall_numbers)))
    (i_Queuesall_numbers : PySem.W.isFn K (.ref f_Queuesall_numbers) = true)
    (l_Queuesall_numbers : K.lookup f_Queuesall_numbers = some ⟨oc_Queuesall_numbers, od_Queuesall_numbers, .func (PySem.W.fnOf "_all_numbers" "Queues._all_numbers" (defArgs s_Queuesall_numbers) (defBody s_Queuesall_numbers) (defScope s_Queuesall_numbers) .none kV_Queuesall_numbers dc_Queuesall_numbers pm_Queuesall_numbers an_Queuesall_numbers cd_Queuesall_numbers ct_Queuesall_numbers), sl_Queuesall_numbers⟩)
    (c_Queuesall_numbers : PySem.W.codeIn K cd_Queuesall_numbers "Queues._all_numbers" = true) (k_Queuesall_numbers : PySem.W.keepIn K (.ref f_Queuesall_numbers) = true)
    (a_Queuesneed_above_all : PySem.W.findIn K (.ref C_Queues) "_need_above_all" = some (some (.ref f_Queuesneed_above_all)))
    (i_Queuesneed_above_all : PySem.W.isFn K (.ref f_Queuesneed_above_all) = true)
    (l_Queuesneed_above_all : K.lookup f_Queuesneed_above_all = some ⟨oc_Queuesneed_above_all, od_Queuesneed_above_all, .func (PySem.W.fnOf "_need_above_all" "Queues._need_above_all" (defArgs s_Queuesneed_above_all) (defBody s_Queuesneed_above_all) (defScope s_Queuesneed_above_all) .none kV_Queuesneed_above_all dc_Queuesneed_above_all pm_Queuesneed_above_all an_Queuesneed_above_all cd_Queuesneed_above_all ct_Queuesneed_above_all), sl_Queuesneed_above_all⟩)
    (c_Queuesneed_above_all : PySem.W.codeIn K cd_Queuesneed_above_all "Queues._need_above_all" = true) (k_Queuesneed_above_all : PySem.W.keepIn K (.ref f_Queuesneed_above_all) = true)
    (a_Queuesis_source : PySem.W.findIn K (.ref C_Queues) "_is_source" = some (some (.ref f_Queuesis_source)))
    (i_Queuesis_source : PySem.W.isFn K (.ref f_Queuesis_source) = true)
    (l_Queuesis_source : K.lookup f_Queuesis_source = some ⟨oc_Queuesis_source, od_Queuesis_source, .func (PySem.W.fnOf "_is_source" "Queues._is_source" (defArgs s_Queuesis_source) (defBody s_Queuesis_source) (defScope s_Queuesis_source) .none kV_Queuesis_source dc_Queuesis_source pm_Queuesis_source an_Queuesis_source cd_Queuesis_source ct_Queuesis_source), sl_Queuesis_source⟩)
    (c_Queuesis_source : PySem.W.codeIn K cd_Queuesis_source "Queues._is_source" = true) (k_Queuesis_source : PySem.W.keepIn K (.ref f_Queuesis_source) = true)
    (a__is_one_of : PySem.W.nsIn K mainGlobals "_is_one_of" = some (some (.ref f__is_one_of)))
    (l__is_one_of : K.lookup f__is_one_of = some ⟨oc__is_one_of, od__is_one_of, .func (PySem.W.fnOf "_is_one_of" "_is_one_of" (defArgs s__is_one_of) (defBody s__is_one_of) (defScope s__is_one_of) .none kV__is_one_of dc__is_one_of pm__is_one_of an__is_one_of cd__is_one_of ct__is_one_of), sl__is_one_of⟩)
    (c__is_one_of : PySem.W.codeIn K cd__is_one_of "_is_one_of" = true) (k__is_one_of : PySem.W.keepIn K (.ref f__is_one_of) = true)
    (a__need_one_of : PySem.W.nsIn K mainGlobals "_need_one_of" = some (some (.ref f__need_one_of)))
    (l__need_one_of : K.lookup f__need_one_of = some ⟨oc__need_one_of, od__need_one_of, .func (PySem.W.fnOf "_need_one_of" "_need_one_of" (defArgs s__need_one_of) (defBody s__need_one_of) (defScope s__need_one_of) .none kV__need_one_of dc__need_one_of pm__need_one_of an__need_one_of cd__need_one_of ct__need_one_of), sl__need_one_of⟩)
    (c__need_one_of : PySem.W.codeIn K cd__need_one_of "_need_one_of" = true) (k__need_one_of : PySem.W.keepIn K (.ref f__need_one_of) = true)
    (a_Lpot : PySem.W.nsIn K mainGlobals "_law_pot" = some (some (.ref f_Lpot)))
    (l_Lpot : K.lookup f_Lpot = some ⟨oc_Lpot, od_Lpot, .func (PySem.W.fnOf "_law_pot" "_law_pot" (defArgs s_Lpot) (defBody s_Lpot) (defScope s_Lpot) .none kV_Lpot dc_Lpot pm_Lpot an_Lpot cd_Lpot ct_Lpot), sl_Lpot⟩)
    (c_Lpot : PySem.W.codeIn K cd_Lpot "_law_pot" = true) (k_Lpot : PySem.W.keepIn K (.ref f_Lpot) = true)
    (a_Ldraw : PySem.W.nsIn K mainGlobals "_law_draw" = some (some (.ref f_Ldraw)))
    (l_Ldraw : K.lookup f_Ldraw = some ⟨oc_Ldraw, od_Ldraw, .func (PySem.W.fnOf "_law_draw" "_law_draw" (defArgs s_Ldraw) (defBody s_Ldraw) (defScope s_Ldraw) .none kV_Ldraw dc_Ldraw pm_Ldraw an_Ldraw cd_Ldraw ct_Ldraw), sl_Ldraw⟩)
    (c_Ldraw : PySem.W.codeIn K cd_Ldraw "_law_draw" = true) (k_Ldraw : PySem.W.keepIn K (.ref f_Ldraw) = true)
    (a_Lpick : PySem.W.nsIn K mainGlobals "_law_pick" = some (some (.ref f_Lpick)))
    (l_Lpick : K.lookup f_Lpick = some ⟨oc_Lpick, od_Lpick, .func (PySem.W.fnOf "_law_pick" "_law_pick" (defArgs s_Lpick) (defBody s_Lpick) (defScope s_Lpick) .none kV_Lpick dc_Lpick pm_Lpick an_Lpick cd_Lpick ct_Lpick), sl_Lpick⟩)
    (c_Lpick : PySem.W.codeIn K cd_Lpick "_law_pick" = true) (k_Lpick : PySem.W.keepIn K (.ref f_Lpick) = true)
    (a_Lsource : PySem.W.nsIn K mainGlobals "_law_source" = some (some (.ref f_Lsource)))
    (l_Lsource : K.lookup f_Lsource = some ⟨oc_Lsource, od_Lsource, .func (PySem.W.fnOf "_law_source" "_law_source" (defArgs s_Lsource) (defBody s_Lsource) (defScope s_Lsource) .none kV_Lsource dc_Lsource pm_Lsource an_Lsource cd_Lsource ct_Lsource), sl_Lsource⟩)
    (c_Lsource : PySem.W.codeIn K cd_Lsource "_law_source" = true) (k_Lsource : PySem.W.keepIn K (.ref f_Lsource) = true)
    (a_Learly : PySem.W.nsIn K mainGlobals "_law_early" = some (some (.ref f_Learly)))
    (l_Learly : K.lookup f_Learly = some ⟨oc_Learly, od_Learly, .func (PySem.W.fnOf "_law_early" "_law_early" (defArgs s_Learly) (defBody s_Learly) (defScope s_Learly) .none kV_Learly dc_Learly pm_Learly an_Learly cd_Learly ct_Learly), sl_Learly⟩)
    (c_Learly : PySem.W.codeIn K cd_Learly "_law_early" = true) (k_Learly : PySem.W.keepIn K (.ref f_Learly) = true)
    (a_Ltold_right : PySem.W.nsIn K mainGlobals "_law_told_right" = some (some (.ref f_Ltold_right)))
    (l_Ltold_right : K.lookup f_Ltold_right = some ⟨oc_Ltold_right, od_Ltold_right, .func (PySem.W.fnOf "_law_told_right" "_law_told_right" (defArgs s_Ltold_right) (defBody s_Ltold_right) (defScope s_Ltold_right) .none kV_Ltold_right dc_Ltold_right pm_Ltold_right an_Ltold_right cd_Ltold_right ct_Ltold_right), sl_Ltold_right⟩)
    (c_Ltold_right : PySem.W.codeIn K cd_Ltold_right "_law_told_right" = true) (k_Ltold_right : PySem.W.keepIn K (.ref f_Ltold_right) = true)
    (a_Ldeed : PySem.W.nsIn K mainGlobals "_law_deed" = some (some (.ref f_Ldeed)))
    (l_Ldeed : K.lookup f_Ldeed = some ⟨oc_Ldeed, od_Ldeed, .func (PySem.W.fnOf "_law_deed" "_law_deed" (defArgs s_Ldeed) (defBody s_Ldeed) (defScope s_Ldeed) .none kV_Ldeed dc_Ldeed pm_Ldeed an_Ldeed cd_Ldeed ct_Ldeed), sl_Ldeed⟩)
    (c_Ldeed : PySem.W.codeIn K cd_Ldeed "_law_deed" = true) (k_Ldeed : PySem.W.keepIn K (.ref f_Ldeed) = true)
    (a_Lright : PySem.W.nsIn K mainGlobals "_law_right" = some (some (.ref f_Lright)))
    (l_Lright : K.lookup f_Lright = some ⟨oc_Lright, od_Lright, .func (PySem.W.fnOf "_law_right" "_law_right" (defArgs s_Lright) (defBody s_Lright) (defScope s_Lright) .none kV_Lright dc_Lright pm_Lright an_Lright cd_Lright ct_Lright), sl_Lright⟩)
    (c_Lright : PySem.W.codeIn K cd_Lright "_law_right" = true) (k_Lright : PySem.W.keepIn K (.ref f_Lright) = true)
    (a_law : PySem.W.nsIn K mainGlobals "law" = some (some (.ref f_law)))
    (l_law : K.lookup f_law = some ⟨oc_law, od_law, .func (PySem.W.fnOf "law" "law" (defArgs s_law) (defBody s_law) (defScope s_law) .none kV_law dc_law pm_law an_law cd_law ct_law), sl_law⟩)
    (c_law : PySem.W.codeIn K cd_law "law" = true) (k_law : PySem.W.keepIn K (.ref f_law) = true)
    (z_abs : PySem.W.nsIn K mainGlobals "abs" = some none)
    (z_any : PySem.W.nsIn K mainGlobals "any" = some none)
    (z_bool : PySem.W.nsIn K mainGlobals "bool" = some none)
    (z_dict : PySem.W.nsIn K mainGlobals "dict" = some none)
    (z_divmod : PySem.W.nsIn K mainGlobals "divmod" = some none)
    (z_enumerate : PySem.W.nsIn K mainGlobals "enumerate" = some none)
    (z_int : PySem.W.nsIn K mainGlobals "int" = some none)
    (z_isinstance : PySem.W.nsIn K mainGlobals "isinstance" = some none)
    (z_len : PySem.W.nsIn K mainGlobals "len" = some none)
    (z_list : PySem.W.nsIn K mainGlobals "list" = some none)
    (z_max : PySem.W.nsIn K mainGlobals "max" = some none)
    (z_min : PySem.W.nsIn K mainGlobals "min" = some none)
    (z_range : PySem.W.nsIn K mainGlobals "range" = some none)
    (z_sorted : PySem.W.nsIn K mainGlobals "sorted" = some none)
    (x_WORDS : PySem.W.nsIn K mainGlobals "WORDS" = some (some (.int 65536 t_WORDS)))
    (x_PLACES : PySem.W.nsIn K mainGlobals "PLACES" = some (some (.int 1024 t_PLACES)))
    (x__MOST_ROOMS : PySem.W.nsIn K mainGlobals "_MOST_ROOMS" = some (some (.int 8 t__MOST_ROOMS)))
    (qN : PySem.W.nsIn K mainGlobals "_NOTHING" = some (some (.ref aN))) (lN : K.lookup aN = some ⟨.type "tuple", none, .seq #[.none, .none] nN, #[]⟩)
    (ic_Queues : PySem.W.findIn K (.ref C_Queues) "__class__" = some (some (.builtin "object.__class__"))) (in_Queues : PySem.W.specialIn K (.builtin "object.__class__") "__get__" = some (some (.builtin "getset_descriptor.__get__"))) (it_Queues : PySem.W.takesIn K (.builtin "object.__class__") = some true) (im_Queues : PySem.W.mroIn K C_Queues (.type "object") = some true) (sl_Queues : PySem.W.subIn K (.type "list") (.ref C_Queues) = some false) (ik_Queues : PySem.W.isClsIn K C_Queues = true) (ty_Queues : PySem.W.typeIn K (.ref C_Queues) = some (.type "type")) (ne_Queues : PySem.W.findIn K (.ref C_Queues) "__ne__" = some (some (.builtin "object.__ne__"))) (so_Queues : PySem.W.subIn K (.ref C_Queues) (.type "object") = some true)
    : ∃ fd : FuncData, (∀ (s : Shared) (v : Value), BindsTo s fd ⟨[v], []⟩ [("_law_script", v)]) ∧ ∀ base : Heap, K.In base → base.Ns mainGlobals mg → FnOk l.prog w K mg base CX0 8 fa fd ["_law_script"] (sp_law K) := by
  have e := hfa.symm.trans (PySem.W.mg_of X G a_law)
  cases e
  let T : Txt K mg := {
    C_Queues := C_Queues, cl_Queues := ⟨pg_Queues, hd_Queues, po_Queues, sa_Queues⟩, g_Queues := PySem.W.mg_of X G aC_Queues,
    n_Queues_load_rooms := n_Queues_load_rooms,
    n_Queues_store_rooms := n_Queues_store_rooms,
    n_Queues_loads := n_Queues_loads,
    n_Queues_stores := n_Queues_stores,
    f_is_integer := _, fd_is_integer := _, F_is_integer := fun_mk (st := s_is_integer) l_is_integer c_is_integer k_is_integer,
    g_is_integer := PySem.W.mg_of X G a_is_integer,
    b_is_integer := (fun_mk (st := s_is_integer) l_is_integer c_is_integer k_is_integer).binds (ps := ["value"]) fun _ _ _ _ _ _ us hl => match us, hl with | [_], _ => rfl,
    f_is_count := _, fd_is_count := _, F_is_count := fun_mk (st := s_is_count) l_is_count c_is_count k_is_count,
    g_is_count := PySem.W.mg_of X G a_is_count,
    b_is_count := (fun_mk (st := s_is_count) l_is_count c_is_count k_is_count).binds (ps := ["value"]) fun _ _ _ _ _ _ us hl => match us, hl with | [_], _ => rfl,
    f_is_between := _, fd_is_between := _, F_is_between := fun_mk (st := s_is_between) l_is_between c_is_between k_is_between,
    g_is_between := PySem.W.mg_of X G a_is_between,
    b_is_between := (fun_mk (st := s_is_between) l_is_between c_is_between k_is_between).binds (ps := ["value", "least", "most"]) fun _ _ _ _ _ _ us hl => match us, hl with | [_, _, _], _ => rfl,
    f_need_many := _, fd_need_many := _, F_need_many := fun_mk (st := s_need_many) l_need_many c_need_many k_need_many,
    g_need_many := PySem.W.mg_of X G a_need_many,
    b_need_many := (fun_mk (st := s_need_many) l_need_many c_need_many k_need_many).binds (ps := ["value", "least", "most"]) fun _ _ _ _ _ _ us hl => match us, hl with | [_, _, _], _ => rfl,
    f_need_number := _, fd_need_number := _, F_need_number := fun_mk (st := s_need_number) l_need_number c_need_number k_need_number,
    g_need_number := PySem.W.mg_of X G a_need_number,
    b_need_number := (fun_mk (st := s_need_number) l_need_number c_need_number k_need_number).binds (ps := ["value"]) fun _ _ _ _ _ _ us hl => match us, hl with | [_], _ => rfl,
    f_is_word := _, fd_is_word := _, F_is_word := fun_mk (st := s_is_word) l_is_word c_is_word k_is_word,
    g_is_word := PySem.W.mg_of X G a_is_word,
    b_is_word := (fun_mk (st := s_is_word) l_is_word c_is_word k_is_word).binds (ps := ["value"]) fun _ _ _ _ _ _ us hl => match us, hl with | [_], _ => rfl,
    f_is_place := _, fd_is_place := _, F_is_place := fun_mk (st := s_is_place) l_is_place c_is_place k_is_place,
    g_is_place := PySem.W.mg_of X G a_is_place,
    b_is_place := (fun_mk (st := s_is_place) l_is_place c_is_place k_is_place).binds (ps := ["value"]) fun _ _ _ _ _ _ us hl => match us, hl with | [_], _ => rfl,
    f_need_word := _, fd_need_word := _, F_need_word := fun_mk (st := s_need_word) l_need_word c_need_word k_need_word,
    g_need_word := PySem.W.mg_of X G a_need_word,
    b_need_word := (fun_mk (st := s_need_word) l_need_word c_need_word k_need_word).binds (ps := ["value"]) fun _ _ _ _ _ _ us hl => match us, hl with | [_], _ => rfl,
    f_need_place := _, fd_need_place := _, F_need_place := fun_mk (st := s_need_place) l_need_place c_need_place k_need_place,
    g_need_place := PySem.W.mg_of X G a_need_place,
    b_need_place := (fun_mk (st := s_need_place) l_need_place c_need_place k_need_place).binds (ps := ["value"]) fun _ _ _ _ _ _ us hl => match us, hl with | [_], _ => rfl,
    mk_Queues := ⟨mk_Queues, a_Queues_init, i_Queues_init, kc_Queues⟩,
    f_Queues_init := _, fd_Queues_init := _, F_Queues_init := fun_mk (st := s_Queues_init) l_Queues_init c_Queues_init k_Queues_init,
    b_Queues_init := (fun_mk (st := s_Queues_init) l_Queues_init c_Queues_init k_Queues_init).binds (ps := ["self", "loads", "stores"]) fun _ _ _ _ _ _ us hl => match us, hl with | [_, _, _], _ => rfl,
    pa_Queues_can_load := pa_Queues_can_load, p_Queues_can_load := ⟨a_Queues_can_load, pg_Queues_can_load, pt_Queues_can_load, ⟨_, pq_Queues_can_load⟩⟩,
    f_Queues_can_load := _, fd_Queues_can_load := _, F_Queues_can_load := fun_mk (st := s_Queues_can_load) l_Queues_can_load c_Queues_can_load k_Queues_can_load,
    b_Queues_can_load := (fun_mk (st := s_Queues_can_load) l_Queues_can_load c_Queues_can_load k_Queues_can_load).binds (ps := ["self"]) fun _ _ _ _ _ _ us hl => match us, hl with | [_], _ => rfl,
    pa_Queues_can_store := pa_Queues_can_store, p_Queues_can_store := ⟨a_Queues_can_store, pg_Queues_can_store, pt_Queues_can_store, ⟨_, pq_Queues_can_store⟩⟩,
    f_Queues_can_store := _, fd_Queues_can_store := _, F_Queues_can_store := fun_mk (st := s_Queues_can_store) l_Queues_can_store c_Queues_can_store k_Queues_can_store,
    b_Queues_can_store := (fun_mk (st := s_Queues_can_store) l_Queues_can_store c_Queues_can_store k_Queues_can_store).binds (ps := ["self"]) fun _ _ _ _ _ _ us hl => match us, hl with | [_], _ => rfl,
    me_Queues_load_entered := ⟨a_Queues_load_entered, i_Queues_load_entered, k_Queues_load_entered⟩,
    f_Queues_load_entered := _, fd_Queues_load_entered := _, F_Queues_load_entered := fun_mk (st := s_Queues_load_entered) l_Queues_load_entered c_Queues_load_entered k_Queues_load_entered,
    b_Queues_load_entered := (fun_mk (st := s_Queues_load_entered) l_Queues_load_entered c_Queues_load_entered k_Queues_load_entered).binds (ps := ["self", "number"]) fun _ _ _ _ _ _ us hl => match us, hl with | [_, _], _ => rfl,
    me_Queues_store_entered := ⟨a_Queues_store_entered, i_Queues_store_entered, k_Queues_store_entered⟩,
    f_Queues_store_entered := _, fd_Queues_store_entered := _, F_Queues_store_entered := fun_mk (st := s_Queues_store_entered) l_Queues_store_entered c_Queues_store_entered k_Queues_store_entered,
    b_Queues_store_entered := (fun_mk (st := s_Queues_store_entered) l_Queues_store_entered c_Queues_store_entered k_Queues_store_entered).binds (ps := ["self", "number"]) fun _ _ _ _ _ _ us hl => match us, hl with | [_, _], _ => rfl,
    kb_Queues_store_entered := kw_bindsM (fun_mk (st := s_Queues_store_entered) l_Queues_store_entered c_Queues_store_entered k_Queues_store_entered) (by decide) fun _ _ _ _ _ _ u us hl => match us, hl with | [_], _ => rfl,
    me_Queues_known := ⟨a_Queues_known, i_Queues_known, k_Queues_known⟩,
    f_Queues_known := _, fd_Queues_known := _, F_Queues_known := fun_mk (st := s_Queues_known) l_Queues_known c_Queues_known k_Queues_known,
    b_Queues_known := (fun_mk (st := s_Queues_known) l_Queues_known c_Queues_known k_Queues_known).binds (ps := ["self", "number", "place", "word"]) fun _ _ _ _ _ _ us hl => match us, hl with | [_, _, _, _], _ => rfl,
    me_Queues_source := ⟨a_Queues_source, i_Queues_source, k_Queues_source⟩,
    f_Queues_source := _, fd_Queues_source := _, F_Queues_source := fun_mk (st := s_Queues_source) l_Queues_source c_Queues_source k_Queues_source,
    b_Queues_source := (fun_mk (st := s_Queues_source) l_Queues_source c_Queues_source k_Queues_source).binds (ps := ["self", "number", "place"]) fun _ _ _ _ _ _ us hl => match us, hl with | [_, _, _], _ => rfl,
    me_Queues_read := ⟨a_Queues_read, i_Queues_read, k_Queues_read⟩,
    f_Queues_read := _, fd_Queues_read := _, F_Queues_read := fun_mk (st := s_Queues_read) l_Queues_read c_Queues_read k_Queues_read,
    b_Queues_read := (fun_mk (st := s_Queues_read) l_Queues_read c_Queues_read k_Queues_read).binds (ps := ["self", "number", "place", "source"]) fun _ _ _ _ _ _ us hl => match us, hl with | [_, _, _, _], _ => rfl,
    me_Queues_leave := ⟨a_Queues_leave, i_Queues_leave, k_Queues_leave⟩,
    f_Queues_leave := _, fd_Queues_leave := _, F_Queues_leave := fun_mk (st := s_Queues_leave) l_Queues_leave c_Queues_leave k_Queues_leave,
    b_Queues_leave := (fun_mk (st := s_Queues_leave) l_Queues_leave c_Queues_leave k_Queues_leave).binds (ps := ["self", "number"]) fun _ _ _ _ _ _ us hl => match us, hl with | [_, _], _ => rfl,
    me_Queues_dropped := ⟨a_Queues_dropped, i_Queues_dropped, k_Queues_dropped⟩,
    f_Queues_dropped := _, fd_Queues_dropped := _, F_Queues_dropped := fun_mk (st := s_Queues_dropped) l_Queues_dropped c_Queues_dropped k_Queues_dropped,
    b_Queues_dropped := (fun_mk (st := s_Queues_dropped) l_Queues_dropped c_Queues_dropped k_Queues_dropped).binds (ps := ["self", "number"]) fun _ _ _ _ _ _ us hl => match us, hl with | [_, _], _ => rfl,
    kb_Queues_dropped := kw_bindsM (fun_mk (st := s_Queues_dropped) l_Queues_dropped c_Queues_dropped k_Queues_dropped) (by decide) fun _ _ _ _ _ _ u us hl => match us, hl with | [_], _ => rfl,
    me_Queues_loads := ⟨a_Queues_loads, i_Queues_loads, k_Queues_loads⟩,
    f_Queues_loads := _, fd_Queues_loads := _, F_Queues_loads := fun_mk (st := s_Queues_loads) l_Queues_loads c_Queues_loads k_Queues_loads,
    b_Queues_loads := (fun_mk (st := s_Queues_loads) l_Queues_loads c_Queues_loads k_Queues_loads).binds (ps := ["self"]) fun _ _ _ _ _ _ us hl => match us, hl with | [_], _ => rfl,
    me_Queues_stores := ⟨a_Queues_stores, i_Queues_stores, k_Queues_stores⟩,
    f_Queues_stores := _, fd_Queues_stores := _, F_Queues_stores := fun_mk (st := s_Queues_stores) l_Queues_stores c_Queues_stores k_Queues_stores,
    b_Queues_stores := (fun_mk (st := s_Queues_stores) l_Queues_stores c_Queues_stores k_Queues_stores).binds (ps := ["self"]) fun _ _ _ _ _ _ us hl => match us, hl with | [_], _ => rfl,
    me_Queues_copy := ⟨a_Queues_copy, i_Queues_copy, k_Queues_copy⟩,
    f_Queues_copy := _, fd_Queues_copy := _, F_Queues_copy := fun_mk (st := s_Queues_copy) l_Queues_copy c_Queues_copy k_Queues_copy,
    b_Queues_copy := (fun_mk (st := s_Queues_copy) l_Queues_copy c_Queues_copy k_Queues_copy).binds (ps := ["self"]) fun _ _ _ _ _ _ us hl => match us, hl with | [_], _ => rfl,
    me_Queues_eq := ⟨a_Queues_eq, i_Queues_eq, k_Queues_eq⟩,
    f_Queues_eq := _, fd_Queues_eq := _, F_Queues_eq := fun_mk (st := s_Queues_eq) l_Queues_eq c_Queues_eq k_Queues_eq,
    b_Queues_eq := (fun_mk (st := s_Queues_eq) l_Queues_eq c_Queues_eq k_Queues_eq).binds (ps := ["self", "other"]) fun _ _ _ _ _ _ us hl => match us, hl with | [_, _], _ => rfl,
    me_Queuesall_numbers := ⟨a_Queuesall_numbers, i_Queuesall_numbers, k_Queuesall_numbers⟩,
    f_Queuesall_numbers := _, fd_Queuesall_numbers := _, F_Queuesall_numbers := fun_mk (st := s_Queuesall_numbers) l_Queuesall_numbers c_Queuesall_numbers k_Queuesall_numbers,
    b_Queuesall_numbers := (fun_mk (st := s_Queuesall_numbers) l_Queuesall_numbers c_Queuesall_numbers k_Queuesall_numbers).binds (ps := ["self"]) fun _ _ _ _ _ _ us hl => match us, hl with | [_], _ => rfl,
    me_Queuesneed_above_all := ⟨a_Queuesneed_above_all, i_Queuesneed_above_all, k_Queuesneed_above_all⟩,
    f_Queuesneed_above_all := _, fd_Queuesneed_above_all := _, F_Queuesneed_above_all := fun_mk (st := s_Queuesneed_above_all) l_Queuesneed_above_all c_Queuesneed_above_all k_Queuesneed_above_all,
    b_Queuesneed_above_all := (fun_mk (st := s_Queuesneed_above_all) l_Queuesneed_above_all c_Queuesneed_above_all k_Queuesneed_above_all).binds (ps := ["self", "value"]) fun _ _ _ _ _ _ us hl => match us, hl with | [_, _], _ => rfl,
    me_Queuesis_source := ⟨a_Queuesis_source, i_Queuesis_source, k_Queuesis_source⟩,
    f_Queuesis_source := _, fd_Queuesis_source := _, F_Queuesis_source := fun_mk (st := s_Queuesis_source) l_Queuesis_source c_Queuesis_source k_Queuesis_source,
    b_Queuesis_source := (fun_mk (st := s_Queuesis_source) l_Queuesis_source c_Queuesis_source k_Queuesis_source).binds (ps := ["self", "value", "number", "place"]) fun _ _ _ _ _ _ us hl => match us, hl with | [_, _, _, _], _ => rfl,
    f__is_one_of := _, fd__is_one_of := _, F__is_one_of := fun_mk (st := s__is_one_of) l__is_one_of c__is_one_of k__is_one_of,
    g__is_one_of := PySem.W.mg_of X G a__is_one_of,
    b__is_one_of := (fun_mk (st := s__is_one_of) l__is_one_of c__is_one_of k__is_one_of).binds (ps := ["queue", "value"]) fun _ _ _ _ _ _ us hl => match us, hl with | [_, _], _ => rfl,
    f__need_one_of := _, fd__need_one_of := _, F__need_one_of := fun_mk (st := s__need_one_of) l__need_one_of c__need_one_of k__need_one_of,
    g__need_one_of := PySem.W.mg_of X G a__need_one_of,
    b__need_one_of := (fun_mk (st := s__need_one_of) l__need_one_of c__need_one_of k__need_one_of).binds (ps := ["queue", "value"]) fun _ _ _ _ _ _ us hl => match us, hl with | [_, _], _ => rfl,
    f_Lpot := _, fd_Lpot := _, F_Lpot := fun_mk (st := s_Lpot) l_Lpot c_Lpot k_Lpot,
    g_Lpot := PySem.W.mg_of X G a_Lpot,
    b_Lpot := (fun_mk (st := s_Lpot) l_Lpot c_Lpot k_Lpot).binds (ps := ["_law_script", "_law_k"]) fun _ _ _ _ _ _ us hl => match us, hl with | [_, _], _ => rfl,
    f_Ldraw := _, fd_Ldraw := _, F_Ldraw := fun_mk (st := s_Ldraw) l_Ldraw c_Ldraw k_Ldraw,
    g_Ldraw := PySem.W.mg_of X G a_Ldraw,
    b_Ldraw := (fun_mk (st := s_Ldraw) l_Ldraw c_Ldraw k_Ldraw).binds (ps := ["_law_pot_here", "_law_size"]) fun _ _ _ _ _ _ us hl => match us, hl with | [_, _], _ => rfl,
    f_Lpick := _, fd_Lpick := _, F_Lpick := fun_mk (st := s_Lpick) l_Lpick c_Lpick k_Lpick,
    g_Lpick := PySem.W.mg_of X G a_Lpick,
    b_Lpick := (fun_mk (st := s_Lpick) l_Lpick c_Lpick k_Lpick).binds (ps := ["_law_pot_here", "_law_some"]) fun _ _ _ _ _ _ us hl => match us, hl with | [_, _], _ => rfl,
    f_Lsource := _, fd_Lsource := _, F_Lsource := fun_mk (st := s_Lsource) l_Lsource c_Lsource k_Lsource,
    g_Lsource := PySem.W.mg_of X G a_Lsource,
    b_Lsource := (fun_mk (st := s_Lsource) l_Lsource c_Lsource k_Lsource).binds (ps := ["_law_stores", "_law_number", "_law_place"]) fun _ _ _ _ _ _ us hl => match us, hl with | [_, _, _], _ => rfl,
    f_Learly := _, fd_Learly := _, F_Learly := fun_mk (st := s_Learly) l_Learly c_Learly k_Learly,
    g_Learly := PySem.W.mg_of X G a_Learly,
    b_Learly := (fun_mk (st := s_Learly) l_Learly c_Learly k_Learly).binds (ps := ["_law_loads", "_law_number", "_law_place"]) fun _ _ _ _ _ _ us hl => match us, hl with | [_, _, _], _ => rfl,
    f_Ltold_right := _, fd_Ltold_right := _, F_Ltold_right := fun_mk (st := s_Ltold_right) l_Ltold_right c_Ltold_right k_Ltold_right,
    g_Ltold_right := PySem.W.mg_of X G a_Ltold_right,
    b_Ltold_right := (fun_mk (st := s_Ltold_right) l_Ltold_right c_Ltold_right k_Ltold_right).binds (ps := ["_law_queues", "_law_rooms", "_law_loads", "_law_stores"]) fun _ _ _ _ _ _ us hl => match us, hl with | [_, _, _, _], _ => rfl,
    f_Ldeed := _, fd_Ldeed := _, F_Ldeed := fun_mk (st := s_Ldeed) l_Ldeed c_Ldeed k_Ldeed,
    g_Ldeed := PySem.W.mg_of X G a_Ldeed,
    b_Ldeed := (fun_mk (st := s_Ldeed) l_Ldeed c_Ldeed k_Ldeed).binds (ps := ["_law_pot_here", "_law_queues", "_law_rooms", "_law_loads", "_law_stores", "_law_next_one"]) fun _ _ _ _ _ _ us hl => match us, hl with | [_, _, _, _, _, _], _ => rfl,
    f_Lright := _, fd_Lright := _, F_Lright := fun_mk (st := s_Lright) l_Lright c_Lright k_Lright,
    g_Lright := PySem.W.mg_of X G a_Lright,
    b_Lright := (fun_mk (st := s_Lright) l_Lright c_Lright k_Lright).binds (ps := ["_law_pot_here"]) fun _ _ _ _ _ _ us hl => match us, hl with | [_], _ => rfl,
    f_law := _, fd_law := _, F_law := fun_mk (st := s_law) l_law c_law k_law,
    g_law := PySem.W.mg_of X G a_law,
    b_law := (fun_mk (st := s_law) l_law c_law k_law).binds (ps := ["_law_script"]) fun _ _ _ _ _ _ us hl => match us, hl with | [_], _ => rfl,
    m_abs := PySem.W.mg_none_of X G z_abs,
    m_any := PySem.W.mg_none_of X G z_any,
    m_bool := PySem.W.mg_none_of X G z_bool,
    m_dict := PySem.W.mg_none_of X G z_dict,
    m_divmod := PySem.W.mg_none_of X G z_divmod,
    m_enumerate := PySem.W.mg_none_of X G z_enumerate,
    m_int := PySem.W.mg_none_of X G z_int,
    m_isinstance := PySem.W.mg_none_of X G z_isinstance,
    m_len := PySem.W.mg_none_of X G z_len,
    m_list := PySem.W.mg_none_of X G z_list,
    m_max := PySem.W.mg_none_of X G z_max,
    m_min := PySem.W.mg_none_of X G z_min,
    m_range := PySem.W.mg_none_of X G z_range,
    m_sorted := PySem.W.mg_none_of X G z_sorted,
    c_WORDS := ⟨_, PySem.W.mg_of X G x_WORDS⟩,
    c_PLACES := ⟨_, PySem.W.mg_of X G x_PLACES⟩,
    c__MOST_ROOMS := ⟨_, PySem.W.mg_of X G x__MOST_ROOMS⟩,
    aN := aN,
    gN := PySem.W.mg_of X G qN,
    lN := ⟨_, lN⟩,
    ic_Queues := ic_Queues,
    in_Queues := in_Queues,
    it_Queues := it_Queues,
    im_Queues := im_Queues,
    sl_Queues := sl_Queues,
    ik_Queues := ik_Queues,
    ty_Queues := ty_Queues,
    ne_Queues := ne_Queues,
    so_Queues := so_Queues }
  exact ⟨_, fun s v => .of_eq rfl, fun base _ _ => ok_law (P := l.prog) (w := w) (base := base) T⟩
theorem walk {l : PySem.W.OpenLaw} {q : Program} {loose : List Str} {XP : (Str → Option Value) → Heap → Prop} {YP : World → Heap → Prop} {d : DefRec} {K : Params → PySem.W.Frag} (hn : l.most = some 63) (hdf : d.params.defaults = [])
    (hY : ∀ (w : World) (h : Heap), YP w h → (K w.params).In h)
    (F : ∀ (w : World) (mg : Str → Option Value) (fa : Addr) (h : Heap), (K w.params).In h → h.Ns mainGlobals mg → mg d.name = some (.ref fa) →
      ∃ fd : FuncData, (∀ (s : Shared) (u : Value), BindsTo s fd ⟨[u], []⟩ [("_law_script", u)]) ∧ ∀ base : Heap, (K w.params).In base → base.Ns mainGlobals mg → FnOk l.prog w (K w.params) mg base CX0 8 fa fd ["_law_script"] (sp_law (K w.params))) :
    PySem.W.WalkO q loose XP YP l.row.toRowW d [] (fun f vs => PySem.call f vs) :=
  L2.walk_of (n := 63) (k := 8) (x := "_law_script") (CX := fun _ => CX0) (sp := fun w => sp_law (K w.params)) hn (by decide) hdf ⟨rfl, by decide, by decide⟩ hY F (fun _ _ a ns hl _ hS => ⟨a, ns, rfl, hS, hl, fun _ => rfl⟩) fun _ _ _ _ _ z => z
end K76
open PySem PySem.W PyProof.Rows
set_option maxRecDepth 100000 in
set_option maxHeartbeats 0 in
theorem PySem.Challenge.cw_orderlycore_k76_whole_queues_by_own_list_holds : PySem.Challenge.rw_orderlycore_k76_whole_queues_by_own_list.Holds := by
  w_on; o_law; k_head; (case hw => w_witness2)
  k_fill
  refine K76.walk (l := PySem.Challenge.rw_orderlycore_k76_whole_queues_by_own_list) rfl rfl (fun w h Y => PySem.W.kIn_of Y) ?F
  case F =>
    intro w mg fa h KX G hmg
    refine' K76.all_mk KX G hmg ?aC_Queues ?pg_Queues ?hd_Queues ?po_Queues ?sa_Queues ?mk_Queues ?kc_Queues ?n_Queues_load_rooms ?n_Queues_store_rooms ?n_Queues_loads ?n_Queues_stores ?a_is_integer ?l_is_integer ?c_is_integer ?k_is_integer ?a_is_count ?l_is_count ?c_is_count ?k_is_count ?a_is_between ?l_is_between ?c_is_between ?k_is_between ?a_need_many ?l_need_many ?c_need_many ?k_need_many ?a_need_number ?l_need_number ?c_need_number ?k_need_number ?a_is_word ?l_is_word ?c_is_word ?k_is_word ?a_is_place ?l_is_place ?c_is_place ?k_is_place ?a_need_word ?l_need_word ?c_need_word ?k_need_word ?a_need_place ?l_need_place ?c_need_place ?k_need_place ?a_Queues_init ?i_Queues_init ?l_Queues_init ?c_Queues_init ?k_Queues_init ?a_Queues_can_load ?pg_Queues_can_load ?pt_Queues_can_load ?pq_Queues_can_load ?l_Queues_can_load ?c_Queues_can_load ?k_Queues_can_load ?a_Queues_can_store ?pg_Queues_can_store ?pt_Queues_can_store ?pq_Queues_can_store ?l_Queues_can_store ?c_Queues_can_store ?k_Queues_can_store ?a_Queues_load_entered ?i_Queues_load_entered ?l_Queues_load_entered ?c_Queues_load_entered ?k_Queues_load_entered ?a_Queues_store_entered ?i_Queues_store_entered ?l_Queues_store_entered ?c_Queues_store_entered ?k_Queues_store_entered ?a_Queues_known ?i_Queues_known ?l_Queues_known ?c_Queues_known ?k_Queues_known ?a_Queues_source ?i_Queues_source ?l_Queues_source ?c_Queues_source ?k_Queues_source ?a_Queues_read ?i_Queues_read ?l_Queues_read ?c_Queues_read ?k_Queues_read ?a_Queues_leave ?i_Queues_leave ?l_Queues_leave ?c_Queues_leave ?k_Queues_leave ?a_Queues_dropped ?i_Queues_dropped ?l_Queues_dropped ?c_Queues_dropped ?k_Queues_dropped ?a_Queues_loads ?i_Queues_loads ?l_Queues_loads ?c_Queues_loads ?k_Queues_loads ?a_Queues_stores ?i_Queues_stores ?l_Queues_stores ?c_Queues_stores ?k_Queues_stores ?a_Queues_copy ?i_Queues_copy ?l_Queues_copy ?c_Queues_copy ?k_Queues_copy ?a_Queues_eq ?i_Queues_eq ?l_Queues_eq ?c_Queues_eq ?k_Queues_eq ?a_Queuesall_numbers ?i_Queuesall_numbers ?l_Queuesall_numbers ?c_Queuesall_numbers ?k_Queuesall_numbers ?a_Queuesneed_above_all ?i_Queuesneed_above_all ?l_Queuesneed_above_all ?c_Queuesneed_above_all ?k_Queuesneed_above_all ?a_Queuesis_source ?i_Queuesis_source ?l_Queuesis_source ?c_Queuesis_source ?k_Queuesis_source ?a__is_one_of ?l__is_one_of ?c__is_one_of ?k__is_one_of ?a__need_one_of ?l__need_one_of ?c__need_one_of ?k__need_one_of ?a_Lpot ?l_Lpot ?c_Lpot ?k_Lpot ?a_Ldraw ?l_Ldraw ?c_Ldraw ?k_Ldraw ?a_Lpick ?l_Lpick ?c_Lpick ?k_Lpick ?a_Lsource ?l_Lsource ?c_Lsource ?k_Lsource ?a_Learly ?l_Learly ?c_Learly ?k_Learly ?a_Ltold_right ?l_Ltold_right ?c_Ltold_right ?k_Ltold_right ?a_Ldeed ?l_Ldeed ?c_Ldeed ?k_Ldeed ?a_Lright ?l_Lright ?c_Lright ?k_Lright ?a_law ?l_law ?c_law ?k_law ?z_abs ?z_any ?z_bool ?z_dict ?z_divmod ?z_enumerate ?z_int ?z_isinstance ?z_len ?z_list ?z_max ?z_min ?z_range ?z_sorted ?x_WORDS ?x_PLACES ?x__MOST_ROOMS ?qN ?lN ?ic_Queues ?in_Queues ?it_Queues ?im_Queues ?sl_Queues ?ik_Queues ?ty_Queues ?ne_Queues ?so_Queues
    (case aC_Queues => k_is)
    (case pg_Queues => k_is)
    (case hd_Queues => k_is)
    (case po_Queues => k_is)
    (case sa_Queues => k_is)
    (case mk_Queues => k_is)
    (case kc_Queues => k_is)
    (case n_Queues_load_rooms => k_is)
    (case n_Queues_store_rooms => k_is)
    (case n_Queues_loads => k_is)
    (case n_Queues_stores => k_is)
    (case a_is_integer => k_is)
    (case l_is_integer => k_is)
    (case c_is_integer => k_is)
    (case k_is_integer => k_is)
    (case a_is_count => k_is)
    (case l_is_count => k_is)
    (case c_is_count => k_is)
    (case k_is_count => k_is)
    (case a_is_between => k_is)
    (case l_is_between => k_is)
    (case c_is_between => k_is)
    (case k_is_between => k_is)
    (case a_need_many => k_is)
    (case l_need_many => k_is)
    (case c_need_many => k_is)
    (case k_need_many => k_is)
    (case a_need_number => k_is)
    (case l_need_number => k_is)
    (case c_need_number => k_is)
    (case k_need_number => k_is)
    (case a_is_word => k_is)
    (case l_is_word => k_is)
    (case c_is_word => k_is)
    (case k_is_word => k_is)
    (case a_is_place => k_is)
    (case l_is_place => k_is)
    (case c_is_place => k_is)
    (case k_is_place => k_is)
    (case a_need_word => k_is)
    (case l_need_word => k_is)
    (case c_need_word => k_is)
    (case k_need_word => k_is)
    (case a_need_place => k_is)
    (case l_need_place => k_is)
    (case c_need_place => k_is)
    (case k_need_place => k_is)
    (case a_Queues_init => k_is)
    (case i_Queues_init => k_is)
    (case l_Queues_init => k_is)
    (case c_Queues_init => k_is)
    (case k_Queues_init => k_is)
    (case a_Queues_can_load => k_is)
    (case pg_Queues_can_load => k_is)
    (case pt_Queues_can_load => k_is)
    (case pq_Queues_can_load => k_is)
    (case l_Queues_can_load => k_is)
    (case c_Queues_can_load => k_is)
    (case k_Queues_can_load => k_is)
    (case a_Queues_can_store => k_is)
    (case pg_Queues_can_store => k_is)
    (case pt_Queues_can_store => k_is)
    (case pq_Queues_can_store => k_is)
    (case l_Queues_can_store => k_is)
    (case c_Queues_can_store => k_is)
    (case k_Queues_can_store => k_is)
    (case a_Queues_load_entered => k_is)
    (case i_Queues_load_entered => k_is)
    (case l_Queues_load_entered => k_is)
    (case c_Queues_load_entered => k_is)
    (case k_Queues_load_entered => k_is)
    (case a_Queues_store_entered => k_is)
    (case i_Queues_store_entered => k_is)
    (case l_Queues_store_entered => k_is)
    (case c_Queues_store_entered => k_is)
    (case k_Queues_store_entered => k_is)
    (case a_Queues_known => k_is)
    (case i_Queues_known => k_is)
    (case l_Queues_known => k_is)
    (case c_Queues_known => k_is)
    (case k_Queues_known => k_is)
    (case a_Queues_source => k_is)
    (case i_Queues_source => k_is)
    (case l_Queues_source => k_is)
    (case c_Queues_source => k_is)
    (case k_Queues_source => k_is)
    (case a_Queues_read => k_is)
    (case i_Queues_read => k_is)
    (case l_Queues_read => k_is)
    (case c_Queues_read => k_is)
    (case k_Queues_read => k_is)
    (case a_Queues_leave => k_is)
    (case i_Queues_leave => k_is)
    (case l_Queues_leave => k_is)
    (case c_Queues_leave => k_is)
    (case k_Queues_leave => k_is)
    (case a_Queues_dropped => k_is)
    (case i_Queues_dropped => k_is)
    (case l_Queues_dropped => k_is)
    (case c_Queues_dropped => k_is)
    (case k_Queues_dropped => k_is)
    (case a_Queues_loads => k_is)
    (case i_Queues_loads => k_is)
    (case l_Queues_loads => k_is)
    (case c_Queues_loads => k_is)
    (case k_Queues_loads => k_is)
    (case a_Queues_stores => k_is)
    (case i_Queues_stores => k_is)
    (case l_Queues_stores => k_is)
    (case c_Queues_stores => k_is)
    (case k_Queues_stores => k_is)
    (case a_Queues_copy => k_is)
    (case i_Queues_copy => k_is)
    (case l_Queues_copy => k_is)
    (case c_Queues_copy => k_is)
    (case k_Queues_copy => k_is)
    (case a_Queues_eq => k_is)
    (case i_Queues_eq => k_is)
    (case l_Queues_eq => k_is)
    (case c_Queues_eq => k_is)
    (case k_Queues_eq => k_is)
    (case a_Queuesall_numbers => k_is)
    (case i_Queuesall_numbers => k_is)
    (case l_Queuesall_numbers => k_is)
    (case c_Queuesall_numbers => k_is)
    (case k_Queuesall_numbers => k_is)
    (case a_Queuesneed_above_all => k_is)
    (case i_Queuesneed_above_all => k_is)
    (case l_Queuesneed_above_all => k_is)
    (case c_Queuesneed_above_all => k_is)
    (case k_Queuesneed_above_all => k_is)
    (case a_Queuesis_source => k_is)
    (case i_Queuesis_source => k_is)
    (case l_Queuesis_source => k_is)
    (case c_Queuesis_source => k_is)
    (case k_Queuesis_source => k_is)
    (case a__is_one_of => k_is)
    (case l__is_one_of => k_is)
    (case c__is_one_of => k_is)
    (case k__is_one_of => k_is)
    (case a__need_one_of => k_is)
    (case l__need_one_of => k_is)
    (case c__need_one_of => k_is)
    (case k__need_one_of => k_is)
    (case a_Lpot => k_is)
    (case l_Lpot => k_is)
    (case c_Lpot => k_is)
    (case k_Lpot => k_is)
    (case a_Ldraw => k_is)
    (case l_Ldraw => k_is)
    (case c_Ldraw => k_is)
    (case k_Ldraw => k_is)
    (case a_Lpick => k_is)
    (case l_Lpick => k_is)
    (case c_Lpick => k_is)
    (case k_Lpick => k_is)
    (case a_Lsource => k_is)
    (case l_Lsource => k_is)
    (case c_Lsource => k_is)
    (case k_Lsource => k_is)
    (case a_Learly => k_is)
    (case l_Learly => k_is)
    (case c_Learly => k_is)
    (case k_Learly => k_is)
    (case a_Ltold_right => k_is)
    (case l_Ltold_right => k_is)
    (case c_Ltold_right => k_is)
    (case k_Ltold_right => k_is)
    (case a_Ldeed => k_is)
    (case l_Ldeed => k_is)
    (case c_Ldeed => k_is)
    (case k_Ldeed => k_is)
    (case a_Lright => k_is)
    (case l_Lright => k_is)
    (case c_Lright => k_is)
    (case k_Lright => k_is)
    (case a_law => k_is)
    (case l_law => k_is)
    (case c_law => k_is)
    (case k_law => k_is)
    (case z_abs => k_is)
    (case z_any => k_is)
    (case z_bool => k_is)
    (case z_dict => k_is)
    (case z_divmod => k_is)
    (case z_enumerate => k_is)
    (case z_int => k_is)
    (case z_isinstance => k_is)
    (case z_len => k_is)
    (case z_list => k_is)
    (case z_max => k_is)
    (case z_min => k_is)
    (case z_range => k_is)
    (case z_sorted => k_is)
    (case x_WORDS => k_is)
    (case x_PLACES => k_is)
    (case x__MOST_ROOMS => k_is)
    (case qN => k_is)
    (case lN => k_is)
    (case ic_Queues => k_is)
    (case in_Queues => k_is)
    (case it_Queues => k_is)
    (case im_Queues => k_is)
    (case sl_Queues => k_is)
    (case ik_Queues => k_is)
    (case ty_Queues => k_is)
    (case ne_Queues => k_is)
    (case so_Queues => k_is)

