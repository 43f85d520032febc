import PyProof.Rows.All
import Wide.All
import OpenK.AllK
import Wide.FinOn
import HandS.ForMost
import HandS.IsInst
import HandS.Wide
import HandS.Style
import HandS.Walk
import HandS.Zip
import HandS.Flow
import HandS.ForExc
import HandS.ExcInit
import HandS.Property
import HandS.TupSets
import HandS.Ends
import HandS.OwnEq
import HandS.MakeKw
import HandS.MakeKwOnly
import HandS.DictComp
import HandS.SortKw
import HandS.SortInts
import HandS.Conv
import HandS.SetFor
import HandS.Strs
import HandS.Set
import HandS.WrittenGet
import HandS.Small
import HandS.ExcOwn
import HandS.RaiseMore
import KE.KDictZip
import KE.KTupSum
import KE.KDictList
import HandS.CallLocal
import KE.GoesEnumKw
import KE.GoesMore
import HandS.Deep
import HandS.Remove
import HandS.DictTup
import KE.SortData
import HandS.DictEq
import PyProof.InstEq
import HandS.TupAny
import HandS.TupLe
import HandS.TupMul
import PySem.Challenge.RW_orderlycore_k91_any_value_as_point_or_ro
set_option Elab.async false
set_option linter.all false
set_option maxRecDepth 100000
set_option maxHeartbeats 4000000
namespace Hx
open PySem PySem.Spec PyProof.Rows L2
/-! ### own rules -/
section
variable {X : Cx} {CX : CXT} {k : Nat} {f : Addr} {fd : FuncData} {ps ks : List Str} {sp : Sp} {E : XK} {x : Str} {p pos : Pos} {kws : List Keyword} {tk : TA} {g : List Value → List Value → List Value} {gV : List V → List V → List V}
theorem pe_callKA (F : FnOk X.prog X.w X.K X.mg X.base CX k f fd ps sp) (hr : Room k X.A) (hg : Gl X x) (hm : X.mg x = some (.ref f)) (hk : PySem.W.keepIn X.K (.ref f) = true) (hb : KBinds X.K fd ps ks g gV) (hx : Passes CX X E)
    (hkw : PK X kws tk) (hall : (backToKw pos (keywordEach kws X.env)).all (·.1.isSome) = true := by rfl) (hks : (backToKw pos (keywordEach kws X.env)).filterMap (·.1) = ks := by rfl)
    (hdb : (x == ("__debug__" : Str)) = false := by decide)
    (hpl : ((backTo pos (starEach [] X.env)).any (·.1) || (backToKw pos (keywordEach kws X.env)).any (·.1.isNone)) = false := by rfl) :
    PE X (.Call (.Name x p) [] kws pos) (tCallK sp gV E tNil tk) := by
  refine ⟨fun pins s σ H Q I h => ?_⟩
  refine wpAny_Call_Name_kw (ld_glob I hg hm ?_ hdb)
  refine PySem.W.callWith_KW0 (h₀ := X.base) I.ok.mod.kin hk hall ?_ hpl
  refine thn (hkw.run pos pins s σ H _ I h) fun ws s2 ⟨zs, H2, I2, rz, q2⟩ => ⟨I2.kIn, ?_⟩
  rw [hks]
  exact run_fnk F hr hb hx I2 .nil rz q2
/-- all by keywords, in the parameters' own order -/
def kwG {α : Type} (us ws : List α) : List α := match us with | [] => ws | _ => []
theorem kw_binds {K : PySem.W.Frag} {x qual : Str} {st : Stmt} {f : Addr} {fd : FuncData} {ps : List Str} (F : Fun K x qual st f fd) (h0 : 0 < ps.length)
    (h : ∀ (kV doc pm : Value) (an : Option Addr) (cdv ct : Value) (us : List Value), us.length = ps.length → bindArgs (PySem.W.fnOf x qual (defArgs st) (defBody st) (defScope st) .none kV doc pm an cdv ct) ⟨[], ps.zip us⟩ = pure (ps.zip us)) : KBinds K fd ps ps kwG kwG := by
  obtain ⟨oc, od, kV, doc, pm, an, cdv, ct, osl, rfl, lk, hcd⟩ := F.ex
  refine ⟨fun s us ws _ hl => ?_, fun {vs us zs ws} r1 r2 => ?_⟩
  · cases us with
    | nil => exact .of_eq (h kV doc pm an cdv ct ws hl)
    | cons a t => exact absurd hl (by simp [kwG]; omega)
  · cases r1 with
    | nil => exact r2
    | cons a t => exact .nil
theorem pg_pair {i j : Nat} {x y : Str} {p1 p2 : Pos} {kk : Nat} (hc : X.calm = true) (hN : X.N.Nodup) (hi : X.N[i]? = some x) (hj : X.N[j]? = some y) (hx : Loc X.env.scope x) (hy : Loc X.env.scope y)
    (hf : X.fn x = true ∨ X.env.scope.names.lookup x = some .local := by first | exact .inl rfl | exact .inr rfl | assumption) (hf2 : X.fn y = true ∨ X.env.scope.names.lookup y = some .local := by first | exact .inl rfl | exact .inr rfl | assumption)
    (hn : (assignEach [Expr.Name x p1, .Name y p2] X.env).length = 2 := by rfl) (hst : (assignEach [Expr.Name x p1, .Name y p2] X.env).findIdx? (·.1) = none := by rfl)
    (hs : (assignEach [Expr.Name x p1, .Name y p2] X.env).map (·.2) = assign (.Name x p1) X.env :: (assignEach [Expr.Name y p2] X.env).map (·.2) := by rfl)
    (hs2 : (assignEach [Expr.Name y p2] X.env).map (·.2) = assign (.Name y p2) X.env :: (assignEach [] X.env).map (·.2) := by rfl) :
    PG X (.Tuple [.Name x p1, .Name y p2] kk pos) (gTup X.K 2 (gCons (gName i) (gCons (gName j) gNil))) :=
  pg_tup hc (pgs_cons (pg_name hN hi hx hf) (pgs_cons (pg_name hN hj hy hf2) pgs_nil hs2) hs) hn hst
theorem pe_gint {i : Int} (hg : Gl X x) (hm : ∃ t, X.mg x = some (.int i t)) (hd : (x == ("__debug__" : Str)) = false := by decide) : PE X (.Name x pos) (tC (.int i)) := by
  obtain ⟨t, hm⟩ := hm
  exact pe_glob hg hm ⟨_, rfl⟩ hd
end
theorem call_int1i {X : Cx} : CallR X (.type "int") (fun xs H Q => ∃ i, xs = [.int i] ∧ Q (.int i) H) := fun pins s σ H xs us Q I r h => call_int1 pins s σ H xs us Q I r (.inl h)
theorem call_int1b {X : Cx} : CallR X (.type "int") (fun xs H Q => ∃ k, xs = [.bl k] ∧ Q (.int (if k then 1 else 0)) H) := fun pins s σ H xs us Q I r h => call_int1 pins s σ H xs us Q I r (.inr h)
theorem call_len_list {X : Cx} : CallR X (.builtin "len") (fun xs H Q => ∃ p ys, xs = [.ref p] ∧ SqL X.K H p ys ∧ Q (.int ys.length) H) := fun pins s σ H xs us Q I r ⟨p, ys, e, h, q⟩ => call_len_seq pins s σ H xs us Q I r ⟨p, ys, e, .inl h, q⟩
/-- a goal at which the walker of readings stops -/
structure Stop (p : Prop) : Prop where
  h : p
theorem stop_eq {p : Prop} : Stop p = p := propext ⟨fun q => q.h, fun q => ⟨q⟩⟩
def tForS (wi : TI) (g : TG) (tb : TS) : TS := fun D σ H => wi σ H fun J H1 => Stop (∃ W : Nat → Nat → L2.St → Hp → Prop, (∃ m, W 0 m σ H1) ∧ ∀ i m σ H, W i m σ H →
  (J.stop i H ∧ D.nx σ H) ∨ (J.go i H ∧ ∃ N : L2.St → Hp → Prop, (∀ σ' H', N σ' H' → ∃ m', m' < m ∧ W (i + 1) m' σ' H') ∧ ∀ x H', J.yld i H x H' → g x σ H' fun σ2 H2 => tb { D with nx := N, ct := N, bk := D.nx } σ2 H2))
theorem tForS_eq (wi : TI) (g : TG) (tb : TS) : tForS wi g tb = tFor wi g tb := by
  funext D σ H
  unfold tForS tFor
  simp only [stop_eq]
theorem ps_forS {X : Cx} {tg iter : Expr} {body : List Stmt} {wi : TI} {g : TG} {tb : TS} {pos : Pos} (hp : PassesOwn (model X.prog X.w) X.A X.env X.xe) (hc : X.calm = true) (hi : PI X tg iter wi) (hg : PG X tg g) (hb : PSs X body tb)
    (hs : ∀ x, foldedSetIterable iter X.env x = pure x := by intro _; rfl) : PS X (.For tg iter body [] pos) (tForS wi g tb) := by
  rw [tForS_eq]
  exact ps_for hp hc hi hg hb hs
/-! ### heaps -/
theorem same_upd {H : Hp} {p : Addr} {o : HO} (h : H p = none) : Same H (upd H p o) := fun b u e => by rw [upd_ne (ne_of_none e h)]; exact e
theorem Same.upd {H H1 : Hp} {p : Addr} {o : HO} (s : Same H H1) (h : H1 p = none) : Same H (L2.upd H1 p o) := L2.Same.trans s (same_upd h)
theorem Same.free' {H H1 : Hp} (s : Same H H1) {p : Addr} (h : H1 p = none) : H p = none := L2.Same.free s h
/-- all but a is as it was -/
def But (a : Addr) (H H' : Hp) : Prop := ∀ b o, b ≠ a → H b = some o → H' b = some o
theorem But.refl {a : Addr} (H : Hp) : But a H H := fun _ _ _ h => h
theorem But.trans {a : Addr} {H H1 H2 : Hp} (x : But a H H1) (y : But a H1 H2) : But a H H2 := fun b o n h => y b o n (x b o n h)
theorem But.same {a : Addr} {H H1 : Hp} (x : Same H H1) : But a H H1 := fun b o _ h => x b o h
theorem But.set {a : Addr} {H : Hp} {o : HO} : But a H (upd H a o) := fun b u n h => by rw [upd_ne n]; exact h
theorem But.new {a : Addr} {H H1 : Hp} {p : Addr} {o : HO} (x : But a H H1) (h : H1 p = none) : But a H (upd H1 p o) := x.trans (But.same (same_upd h))
theorem size_le {n : Nat} (h : n ≤ 10000) : n ≤ sizeLine := by rw [sizeLine_eq]; omega
theorem size_lt {n : Nat} (h : n ≤ 10000) : n < sizeLine := by rw [sizeLine_eq]; omega
theorem iteD {c A B : Prop} [Decidable c] (h1 : c → A) (h2 : ¬ c → B) : if decide c = true then A else B := by
  by_cases h : c
  · rw [decide_eq_true h]; exact iteT (h1 h)
  · rw [decide_eq_false h]; exact iteF (h2 h)
theorem iteN {c A B : Prop} [Decidable c] (h1 : ¬ c → A) (h2 : c → B) : if (!decide c) = true then A else B := by
  by_cases h : c
  · rw [decide_eq_true h]; exact iteF (h2 h)
  · rw [decide_eq_false h]; exact iteT (h1 h)
theorem qbl {Q : VK} {b c : Bool} {H : Hp} (k : Q (.bl b) H) (e : c = b) : Q (.bl c) H := e ▸ k
theorem qint {Q : VK} {i j : Int} {H : Hp} (k : Q (.int i) H) (e : j = i) : Q (.int j) H := e ▸ k
theorem same_set {H H1 : Hp} {p : Addr} {o : HO} (s : Same H H1) (n : H p = none) : Same H (upd H1 p o) := fun b u e => by rw [upd_ne (ne_of_none e n)]; exact s b u e
theorem old_upd {H : Hp} {p a : Addr} {o u : HO} (n : H p = none) (h : H a = some u) : upd H p o a = some u := same_upd n _ _ h
theorem SqL.new {K : PySem.W.Frag} {H : Hp} {p a : Addr} {o : HO} {xs : List V} (n : H p = none) (h : SqL K H a xs) : SqL K (upd H p o) a xs := L2.Same.seq (same_upd n) h
theorem tyl_new {K : PySem.W.Frag} {H : Hp} {p a : Addr} {o : HO} {xs : List V} (h : H a = some (.lst xs)) (n : H p = none) : tyV K "list" (.ref a) (upd H p o) := Or.inl ⟨rfl, xs, SqL.of (old_upd n h)⟩
theorem tyl_of {K : PySem.W.Frag} {H : Hp} {a : Addr} {xs : List V} (h : H a = some (.lst xs)) : tyV K "list" (.ref a) H := Or.inl ⟨rfl, xs, SqL.of h⟩
theorem same_at {H H' : Hp} {a : Addr} {u : HO} (s : Same H H') (h : H a = some u) : H' a = some u := s _ _ h
theorem same_trans' {H H1 H2 : Hp} (b : Same H1 H2) (a : Same H H1) : Same H H2 := L2.Same.trans a b
/-! ### comprehensions that keep what stood -/
theorem lc_mapS {K : PySem.W.Frag} {a : Addr} {xs : List V} {g : TG} {te : TE} {vs : List Nat} {σ : L2.St} {H1 : Hp} {D : Addr} {Qd : Hp → Prop} (ys : List V) (ha : SqL K H1 a xs) (hD : H1 D = none) (hl : xs.length = ys.length) (hz : xs.length ≤ 10000)
    (hs : ∀ (i : Nat) (x y : V) (H' : Hp) (Q : VK), xs[i]? = some x → ys[i]? = some y → Same H1 H' → (∀ H'', Same H' H'' → Q y H'') → g x (wipe σ vs) H' fun σ2 H2 => wipe σ2 vs = wipe σ vs ∧ te σ2 H2 Q)
    (hd : ∀ H', Same H1 H' → H' D = some (.lst ys) → Qd H') :
    ∃ W : Nat → Nat → Hp → Prop, (∃ m, W 0 m (upd H1 D (.lst []))) ∧ ∀ i m H, W i m H →
      ((Itl K a).stop i H ∧ Qd H) ∨ ((Itl K a).go i H ∧ ∃ Nx : Hp → Prop, (∀ H', Nx H' → ∃ m', m' < m ∧ W (i + 1) m' H') ∧ ∀ x H', (Itl K a).yld i H x H' → g x (wipe σ vs) H' fun σ2 H2 => wipe σ2 vs = wipe σ vs ∧ tYes σ2 H2 fun b H3 =>
        if b = true then te σ2 H3 fun y H4 => ∃ acc, H4 D = some (.lst acc) ∧ acc.length < sizeLine ∧ Nx (upd H4 D (.lst (acc ++ [y]))) else Nx H3) := by
  refine lc_list (xs := xs) (fun i H => Same H1 H ∧ H D = some (.lst (ys.take i))) ⟨same_upd hD, upd_same⟩ (fun i H _ h => L2.Same.seq h.1 ha) (fun i x H hx h => ?_) (fun H h => hd H h.1 (by rw [h.2, List.take_of_length_le (by omega)]))
  have hi : i < ys.length := by have := (List.getElem?_eq_some_iff.mp hx).1; omega
  refine hs i x ys[i] H _ hx (List.getElem?_eq_getElem hi) h.1 (fun H'' s => ?_)
  refine ⟨ys.take i, s _ _ h.2, size_lt (by simp; omega), same_set (L2.Same.trans h.1 s) hD, ?_⟩
  rw [upd_same, List.take_add_one, List.getElem?_eq_getElem hi]; rfl
theorem lc_mapZ {K : PySem.W.Frag} {a b : Addr} {xs zs : List V} {g : TG} {te : TE} {vs : List Nat} {σ : L2.St} {H1 : Hp} {D : Addr} {Qd : Hp → Prop} (ys : List V) (ha : SqL K H1 a xs) (hb : SqL K H1 b zs) (hD : H1 D = none) (hl : xs.length = ys.length) (hl2 : xs.length = zs.length) (hz : xs.length ≤ 10000)
    (hs : ∀ (i : Nat) (x z y : V) (T : Addr) (H' : Hp) (Q : VK), xs[i]? = some x → zs[i]? = some z → ys[i]? = some y → Same H1 H' → H' T = none → (∀ H'', Same (upd H' T (.tup [x, z])) H'' → Q y H'') → g (.ref T) (wipe σ vs) (upd H' T (.tup [x, z])) fun σ2 H2 => wipe σ2 vs = wipe σ vs ∧ te σ2 H2 Q)
    (hd : ∀ H', Same H1 H' → H' D = some (.lst ys) → Qd H') :
    ∃ W : Nat → Nat → Hp → Prop, (∃ m, W 0 m (upd H1 D (.lst []))) ∧ ∀ i m H, W i m H →
      ((Itz K a b).stop i H ∧ Qd H) ∨ ((Itz K a b).go i H ∧ ∃ Nx : Hp → Prop, (∀ H', Nx H' → ∃ m', m' < m ∧ W (i + 1) m' H') ∧ ∀ x H', (Itz K a b).yld i H x H' → g x (wipe σ vs) H' fun σ2 H2 => wipe σ2 vs = wipe σ vs ∧ tYes σ2 H2 fun b H3 =>
        if b = true then te σ2 H3 fun y H4 => ∃ acc, H4 D = some (.lst acc) ∧ acc.length < sizeLine ∧ Nx (upd H4 D (.lst (acc ++ [y]))) else Nx H3) := by
  refine lc_it (walk_zip (xs := xs) (ys := zs) (n := xs.length) (by omega)) (fun i H => Same H1 H ∧ H D = some (.lst (ys.take i))) ⟨same_upd hD, upd_same⟩ (fun i H _ h => ⟨L2.Same.seq h.1 ha, L2.Same.seq h.1 hb⟩) (fun i x H H' hi h y => ?_) (fun H h => hd H h.1 (by rw [h.2, List.take_of_length_le (by omega)]))
  obtain ⟨T, x', z', rfl, hT, rfl, hx, hz'⟩ := y
  have hi' : i < ys.length := by omega
  refine hs i x' z' ys[i] T H _ hx hz' (List.getElem?_eq_getElem hi') h.1 hT (fun H'' s => ?_)
  refine ⟨ys.take i, s _ _ (old_upd hT h.2), size_lt (by simp; omega), same_set (L2.Same.trans (Same.upd h.1 hT) s) hD, ?_⟩
  rw [upd_same, List.take_add_one, List.getElem?_eq_getElem hi']; rfl
/-! ### two lists of the same ints -/
theorem dp_ints {K : PySem.W.Frag} {H : Hp} : ∀ ns : List Int, DpAll K H (ns.map V.int) (ns.map PyData.int)
  | [] => .nil
  | n :: r => .cons (.int n) (dp_ints r)
theorem sh_ints (ns : List Int) : SeqAt.shaped (.list (ns.map PyData.int)) = true := PySem.W.shaped_ints ns
theorem eqv_ints (ns : List Int) : PyData.eqv (.list (ns.map PyData.int)) (.list (ns.map PyData.int)) = true := SeqAt.eqv_refl _ (SeqAt.canLay_of_shaped (sh_ints ns))
theorem op_eqLI {X : Cx} (hu : X.A.units + 64 < cLine) : OpR X (compareOp .Eq) (fun x y H Q => ∃ (p q : Addr) (ns : List Int), x = .ref p ∧ y = .ref q ∧ SqL X.K H p (ns.map V.int) ∧ SqL X.K H q (ns.map V.int) ∧ Q (.bl true) H) := by
  intro pins s σ H x y v u Q I rx ry ⟨p, q, ns, e1, e2, h1, h2, k⟩
  refine op_eqD hu pins s σ H x y v u Q I rx ry ⟨.list (ns.map PyData.int), .list (ns.map PyData.int), ?_, ?_, ?_, ?_, ?_⟩
  · rw [e1]; exact .lst h1 (dp_ints ns)
  · rw [e2]; exact .lst h2 (dp_ints ns)
  · exact sh_ints ns
  · exact sh_ints ns
  · rw [eqv_ints]; exact k
theorem op_neLI {X : Cx} (hu : X.A.units + 64 < cLine) : OpR X (compareOp .NotEq) (fun x y H Q => ∃ (p q : Addr) (ns : List Int), x = .ref p ∧ y = .ref q ∧ SqL X.K H p (ns.map V.int) ∧ SqL X.K H q (ns.map V.int) ∧ Q (.bl false) H) := by
  intro pins s σ H x y v u Q I rx ry ⟨p, q, ns, e1, e2, h1, h2, k⟩
  refine op_neD hu pins s σ H x y v u Q I rx ry ⟨.list (ns.map PyData.int), .list (ns.map PyData.int), ?_, ?_, ?_, ?_, ?_⟩
  · rw [e1]; exact .lst h1 (dp_ints ns)
  · rw [e2]; exact .lst h2 (dp_ints ns)
  · exact sh_ints ns
  · exact sh_ints ns
  · rw [eqv_ints]; exact k
/-! ### the pot -/
structure Pot (H : Hp) (a : Addr) : Prop where
  ex : ∃ x y : Int, H a = some (.lst [.int x, .int y]) ∧ 0 ≤ x ∧ 0 ≤ y ∧ y < 4294967296
theorem Pot.same {H H' : Hp} {a : Addr} (s : Same H H') (h : Pot H a) : Pot H' a := by
  obtain ⟨x, y, e, r⟩ := h
  exact ⟨x, y, s _ _ e, r⟩
theorem Pot.new {H : Hp} {a p : Addr} {o : HO} (h : Pot H a) (n : H p = none) : Pot (upd H p o) a := h.same (same_upd n)
theorem Pot.ne {H : Hp} {a p : Addr} (h : Pot H a) (n : H p = none) : p ≠ a := by
  obtain ⟨x, y, e, r⟩ := h
  exact fun z => by rw [z, e] at n; cases n
theorem mulw {i j : Int} {a b : Nat} (ha : i.natAbs < 2 ^ a) (hb : j.natAbs < 2 ^ b) (h0 : 0 < a := by decide) (h1 : 0 < b := by decide) (h : a + b ≤ 1000000 := by decide) : CMulW i j := wide_mul ha hb h0 h1 h
theorem mulw64 {i j : Int} (ha : i.natAbs < 18446744073709551616) (hb : j.natAbs < 18446744073709551616) : CMulW i j := wide_mul (a := 64) (b := 64) ha hb (by decide) (by decide) (by decide)
theorem pick_at {xs : List V} {d : Int} (h0 : 0 ≤ d) (h1 : d < xs.length) : ∃ v, atI xs d = some v ∧ v ∈ xs := by
  have hd : d.toNat < xs.length := by omega
  exact ⟨xs[d.toNat], at_of (j := d.toNat) (by omega) (List.getElem?_eq_getElem hd), List.getElem_mem hd⟩
theorem take_fold {α β : Type} {f : β → α → β} {z : β} {l : List α} {i : Nat} {x : α} (h : l[i]? = some x) : (l.take (i + 1)).foldl f z = f ((l.take i).foldl f z) x := by
  rw [List.take_add_one, h, Option.toList_some, List.foldl_append]; rfl
theorem int_get {ns : List Int} {i : Nat} {x : V} (h : (ns.map V.int)[i]? = some x) : ∃ z, x = .int z ∧ ns[i]? = some z := by
  rw [List.getElem?_map] at h
  obtain ⟨z, hz, e⟩ := Option.map_eq_some_iff.mp h
  exact ⟨z, e.symm, hz⟩
/-- called with the pot and how many: a number below that, and the pot is still one -/
def spDraw : Sp := fun vs H Q _ => ∃ (a : Addr) (n : Int), vs = [.ref a, .int n] ∧ Pot H a ∧ 0 < n ∧ n < 1073741824 ∧
  ∀ (d : Int) (H' : Hp), 0 ≤ d → d < n → Pot H' a → But a H H' → Q (.int d) H'
end Hx

set_option Elab.async false
set_option linter.all false
set_option maxRecDepth 100000
set_option maxHeartbeats 4000000
namespace Hx
open PySem PySem.Spec PyProof.Rows L2
/-! ### own rules for objects and errors -/
def kwM {α : Type} (us ws : List α) : List α := match us with | [x] => x :: ws | _ => []
theorem kw_bindsM {K : PySem.W.Frag} {x qual : Str} {st : Stmt} {f : Addr} {fd : FuncData} {ps : List Str} (F : Fun K x qual st f fd) (h0 : 0 < ps.length)
    (h : ∀ (kV doc pm : Value) (an : Option Addr) (cdv ct : Value) (u : Value) (us : List Value), us.length = ps.tail.length → bindArgs (PySem.W.fnOf x qual (defArgs st) (defBody st) (defScope st) .none kV doc pm an cdv ct) ⟨[u], ps.tail.zip us⟩ = pure (ps.zip (u :: us))) : KBinds K fd ps ps.tail kwM kwM := by
  obtain ⟨oc, od, kV, doc, pm, an, cdv, ct, osl, rfl, lk, hcd⟩ := F.ex
  refine ⟨fun s us ws _ hl => ?_, fun {vs us zs ws} r1 r2 => ?_⟩
  · match us, hl with
    | [], hl => exact absurd hl (by simp [kwM]; omega)
    | [u], hl => exact .of_eq (h kV doc pm an cdv ct u ws (by simp [kwM] at hl ⊢; omega))
    | _ :: _ :: _, hl => exact absurd hl (by simp [kwM]; omega)
  · cases r1 with
    | nil => exact .nil
    | cons a t =>
      cases t with
      | nil => exact .cons a r2
      | cons b t => exact .nil
section
variable {X : Cx} {CX : CXT} {k : Nat} {f C : Addr} {fd : FuncData} {ps ks : List Str} {sp : Sp} {E : L2.St → XK} {E1 : XK} {x m : Str} {p pos apos : Pos} {e o : Expr} {es : List Expr} {ta : TE} {t tk : TA} {kws : List Keyword} {g : List Value → List Value → List Value} {gV : List V → List V → List V}
def tMethA (C : Addr) (m : Str) (sp : Sp) (E : L2.St → XK) (ta : TE) (t : TA) : TE := fun σ H Q => ta σ H fun x H1 => ∃ a dx fs, x = .ref a ∧ H1 a = some (.ins C dx fs) ∧ fs.lookup m = none ∧ t σ H1 fun vs H2 => sp (x :: vs) H2 Q (E σ)
/-- o.m(e, ..) that may raise, within a try -/
theorem pe_methA {E : L2.St → XK} {pl : Sem Bool} (he : PE X o ta) (c : Cls X.K C) (hm : Meth X.K C m f) (F : FnOk X.prog X.w X.K X.mg X.base CX k f fd ps sp) (hr : Room k X.A) (hb : Binds X.K fd ps []) (hx : ∀ σ, PassesAt CX X σ (E σ)) (ha : PA X (e :: es) t)
    (hst : starEach (e :: es) X.env = (false, eval e X.env) :: starEach es X.env := by rfl) (hpl : (backTo pos (starEach es X.env)).any (·.1) = false := by rfl)
    (ht : eval (.Call (.Attribute o m apos) (e :: es) [] pos) X.env = (do
      let ov ← eval o X.env
      standAt apos.atName
      let (f, first) ← holding [ov] (getMethod ov m pl)
      callWith pos f first (backTo pos (starEach (e :: es) X.env)) (backToKw pos (keywordEach [] X.env))) := by rfl) :
    PE X (.Call (.Attribute o m apos) (e :: es) [] pos) (tMethA C m sp E ta t) := by
  refine ⟨fun pins s σ H Q I h => ?_⟩
  refine PySem.W.methodCall_KW (pl := pl) (thn (he.run pins s σ H _ I h) fun u s1 ⟨x, H1, I1, rx, a, dx, fs, ex, ea, l, q⟩ => ?_) ht
  subst ex
  obtain rfl : u = Value.ref a := rx
  refine getmeth_ok I1 ea c hm l ?_
  refine PySem.W.callWith_K (first := [.ref a]) (h₀ := X.base) I.ok.mod.kin hm.kp (thn (ha.run pos pins s1 σ H1 _ I1 q) fun us s2 ⟨vs, H2, I2, r, q2⟩ => ⟨I2.kIn, ?_⟩) hst hpl
  exact run_fnS (us := .ref a :: us) (vs := .ref a :: vs) F hr hb (hx σ) I2 (.cons rfl r) q2
def tMethK (C : Addr) (m : Str) (sp : Sp) (gV : List V → List V → List V) (E : XK) (ta : TE) (tk : TA) : TE := fun σ H Q => ta σ H fun x H1 => ∃ a dx fs, x = .ref a ∧ H1 a = some (.ins C dx fs) ∧ fs.lookup m = none ∧ tk σ H1 fun zs H2 => sp (gV [x] zs) H2 Q E
/-- o.m(k=e, ..) -/
theorem pe_methKA {pl : Sem Bool} (he : PE X o ta) (c : Cls X.K C) (hm : Meth X.K C m f) (F : FnOk X.prog X.w X.K X.mg X.base CX k f fd ps sp) (hr : Room k X.A) (hb : KBinds X.K fd ps ks g gV) (hx : Passes CX X E1)
    (hkw : PK X kws tk) (hall : (backToKw pos (keywordEach kws X.env)).all (·.1.isSome) = true := by rfl) (hks : (backToKw pos (keywordEach kws X.env)).filterMap (·.1) = ks := by rfl)
    (hpl : ((backTo pos (starEach [] X.env)).any (·.1) || (backToKw pos (keywordEach kws X.env)).any (·.1.isNone)) = false := by rfl)
    (ht : eval (.Call (.Attribute o m apos) [] kws pos) X.env = (do
      let ov ← eval o X.env
      standAt apos.atName
      let (f, first) ← holding [ov] (getMethod ov m pl)
      callWith pos f first (backTo pos (starEach [] X.env)) (backToKw pos (keywordEach kws X.env))) := by rfl) :
    PE X (.Call (.Attribute o m apos) [] kws pos) (tMethK C m sp gV E1 ta tk) := by
  refine ⟨fun pins s σ H Q I h => ?_⟩
  refine PySem.W.methodCall_KW (pl := pl) (thn (he.run pins s σ H _ I h) fun u s1 ⟨x, H1, I1, rx, a, dx, fs, ex, ea, l, q⟩ => ?_) ht
  subst ex
  obtain rfl : u = Value.ref a := rx
  refine getmeth_ok I1 ea c hm l ?_
  refine PySem.W.callWith_KW0 (first := [.ref a]) (h₀ := X.base) I.ok.mod.kin hm.kp hall ?_ hpl
  refine thn (hkw.run pos pins s1 σ H1 _ I1 q) fun ws s2 ⟨zs, H2, I2, rz, q2⟩ => ⟨I2.kIn, ?_⟩
  rw [hks]
  exact run_fnk (us := [.ref a]) (vs := [.ref a]) F hr hb hx I2 (.cons rfl .nil) rz q2
theorem PI.or {tg iter : Expr} {w1 w2 : TI} (h1 : PI X tg iter w1) (h2 : PI X tg iter w2) : PI X tg iter (fun σ H R => w1 σ H R ∨ w2 σ H R) := ⟨fun pins s σ H R I h => h.elim (h1.run pins s σ H R I) (h2.run pins s σ H R I)⟩
end
theorem exm_self {K : PySem.W.Frag} {S : Addr} (h1 : PySem.W.subIn K (.ref S) (.type "BaseException") = some true) (h2 : PySem.W.isClsIn K S = true) (h3 : PySem.W.typeIn K (.ref S) = some (.type "type")) (h4 : PySem.W.subIn K (.ref S) (.ref S) = some true) :
    PySem.W.exmOne K (.ref S) (.ref S) = some true := by
  have e1 : (PySem.W.subIn K (.ref S) (.type "BaseException") == some true) = true := by rw [h1] <;> rfl
  have e2 : ((PySem.W.clsIn K S).isSome && PySem.W.typeIn K (.ref S) == some (.type "type")) = true := by
    have h2' : (PySem.W.clsIn K S).isSome = true := h2
    rw [h2', h3] <;> rfl
  show (if (PySem.W.subIn K (.ref S) (.type "BaseException") == some true) = true then (if ((PySem.W.clsIn K S).isSome && PySem.W.typeIn K (.ref S) == some (.type "type")) = true then PySem.W.subIn K (.ref S) (.ref S) else none) else none) = some true
  rw [if_pos e1, if_pos e2]
  exact h4
def tStop (t : TS) : TS := fun D σ H => t { D with nx := fun σ H => Stop (D.nx σ H) } σ H
theorem ps_stop {X : Cx} {st : Stmt} {t : TS} (h : PS X st t) : PS X st (tStop t) := by
  have e : tStop t = t := by
    funext D σ H
    unfold tStop
    simp only [stop_eq]
  rw [e]
  exact h
theorem lc_mapT {K : PySem.W.Frag} {a : Addr} {xs : List V} {g : TG} {te : TE} {vs : List Nat} {σ : L2.St} {H1 : Hp} {D : Addr} {Qd : Hp → Prop} (ys : List V) (ha : SqT K H1 a xs) (hD : H1 D = none) (hl : xs.length = ys.length) (hz : xs.length ≤ 10000)
    (hs : ∀ (i : Nat) (x y : V) (H' : Hp) (Q : VK), xs[i]? = some x → ys[i]? = some y → Same H1 H' → (∀ H'', Same H' H'' → Q y H'') → g x (wipe σ vs) H' fun σ2 H2 => wipe σ2 vs = wipe σ vs ∧ te σ2 H2 Q)
    (hd : ∀ H', Same H1 H' → H' D = some (.lst ys) → Qd H') :
    ∃ W : Nat → Nat → Hp → Prop, (∃ m, W 0 m (upd H1 D (.lst []))) ∧ ∀ i m H, W i m H →
      ((Itt K a).stop i H ∧ Qd H) ∨ ((Itt K a).go i H ∧ ∃ Nx : Hp → Prop, (∀ H', Nx H' → ∃ m', m' < m ∧ W (i + 1) m' H') ∧ ∀ x H', (Itt K a).yld i H x H' → g x (wipe σ vs) H' fun σ2 H2 => wipe σ2 vs = wipe σ vs ∧ tYes σ2 H2 fun b H3 =>
        if b = true then te σ2 H3 fun y H4 => ∃ acc, H4 D = some (.lst acc) ∧ acc.length < sizeLine ∧ Nx (upd H4 D (.lst (acc ++ [y]))) else Nx H3) := by
  refine lc_tup (xs := xs) (fun i H => Same H1 H ∧ H D = some (.lst (ys.take i))) ⟨same_upd hD, upd_same⟩ (fun i H _ h => ha.elim (fun r => r.elim (fun e => .inl (.inl (h.1 _ _ e))) (fun ⟨o, e⟩ => .inl (.inr ⟨o, h.1 _ _ e⟩))) .inr) (fun i x H hx h => ?_) (fun H h => hd H h.1 (by rw [h.2, List.take_of_length_le (by omega)]))
  have hi : i < ys.length := by have := (List.getElem?_eq_some_iff.mp hx).1; omega
  refine hs i x ys[i] H _ hx (List.getElem?_eq_getElem hi) h.1 (fun H'' s => ?_)
  refine ⟨ys.take i, s _ _ h.2, size_lt (by simp; omega), same_set (L2.Same.trans h.1 s) hD, ?_⟩
  rw [upd_same, List.take_add_one, List.getElem?_eq_getElem hi]; rfl
/-! ### two things of the same data -/
def FlatD (n : Nat) (d : PyData) : Prop := d.canLay0 = true ∧ d.depth ≤ n
theorem flat_all {n : Nat} : ∀ ds : List PyData, (∀ d ∈ ds, FlatD n d) → PyData.canLayAll0 ds = true ∧ PyData.depthAll ds ≤ n
  | [], _ => by simp [PyData.canLayAll0, PyData.depthAll]
  | d :: r, h => by
    have i := flat_all r fun x hx => h x (List.mem_cons_of_mem _ hx)
    have j := h d List.mem_cons_self
    unfold FlatD at j
    simp only [PyData.canLayAll0, PyData.depthAll, j.1, i.1, Bool.and_self, true_and]
    omega
theorem flat_list {n : Nat} {ds : List PyData} (h : ∀ d ∈ ds, FlatD n d) : FlatD (n + 1) (.list ds) := by
  have i := flat_all ds h
  exact ⟨by simp only [PyData.canLay0]; exact i.1, by simp only [PyData.depth]; omega⟩
theorem flat_tup {n : Nat} {ds : List PyData} (h : ∀ d ∈ ds, FlatD n d) : FlatD (n + 1) (.tuple ds) := by
  have i := flat_all ds h
  exact ⟨by simp only [PyData.canLay0]; exact i.1, by simp only [PyData.depth]; omega⟩
theorem flat_int (n : Nat) (i : Int) : FlatD n (.int i) := ⟨by simp [PyData.canLay0], by simp [PyData.depth]⟩
theorem flat_sh {n : Nat} {d : PyData} (h : FlatD n d) (hn : n ≤ 64 := by decide) : SeqAt.shaped d = true := by
  show (PyData.canLay0 d && decide (PyData.depth d ≤ 64)) = true
  rw [Bool.and_eq_true]
  exact ⟨h.1, decide_eq_true (Nat.le_trans h.2 hn)⟩
theorem op_eqS {X : Cx} (hu : X.A.units + 64 < cLine) : OpR X (compareOp .Eq) (fun x y H Q => ∃ d, Dp X.K H x d ∧ Dp X.K H y d ∧ SeqAt.shaped d = true ∧ Q (.bl true) H) := by
  intro pins s σ H x y v u Q I rx ry ⟨d, h1, h2, hs, k⟩
  refine op_eqD hu pins s σ H x y v u Q I rx ry ⟨d, d, h1, h2, hs, hs, ?_⟩
  rw [SeqAt.eqv_refl d (SeqAt.canLay_of_shaped hs)]; exact k
theorem op_neS {X : Cx} (hu : X.A.units + 64 < cLine) : OpR X (compareOp .NotEq) (fun x y H Q => ∃ d, Dp X.K H x d ∧ Dp X.K H y d ∧ SeqAt.shaped d = true ∧ Q (.bl false) H) := by
  intro pins s σ H x y v u Q I rx ry ⟨d, h1, h2, hs, k⟩
  refine op_neD hu pins s σ H x y v u Q I rx ry ⟨d, d, h1, h2, hs, hs, ?_⟩
  rw [SeqAt.eqv_refl d (SeqAt.canLay_of_shaped hs)]; exact k
/-- the only error's __init__: self.value = value -/
def spEI (C : Addr) : Sp := fun vs H Q _ => ∃ (a : Addr) (v : V), vs = [.ref a, v] ∧ H a = some (exo a C none) ∧ ∀ dx, H dx = none → dx ≠ a → Q .non (upd (upd H dx (exd dx [("value", v)])) a (exo a C (some dx)))
theorem ei_same {H : Hp} {a dx C : Addr} {fs : List (Str × V)} {o u : HO} (ha : H a = none) (hd : upd H a o dx = none) (ne : dx ≠ a) :
    Same H (upd (del (upd (upd (upd H a o) dx u) a (exo a C (some dx))) a) dx (.xd fs)) := fun b v e => by
  have n1 : b ≠ a := ne_of_none e ha
  have n2 : b ≠ dx := by
    intro z
    rw [z] at e
    rw [upd_ne ne] at hd
    rw [hd] at e
    cases e
  rw [upd_ne n2, del_ne n1, upd_ne n1, upd_ne n2, upd_ne n1]
  exact e
end Hx

set_option Elab.async false
set_option linter.all false
set_option maxRecDepth 100000
set_option maxHeartbeats 4000000
namespace Hx
open PySem PySem.Spec PyProof.Rows L2
/-! ### promises of defs under which no repr is under way -/
/-- as FnOk, for calls around which nothing is being written out -/
structure FnG (P : Program) (w : World) (K : PySem.W.Frag) (mg : Str → Option Value) (base : Heap) (k : Nat) (f : Addr) (fd : FuncData) (ps : List Str) (sp : Sp) : Prop where
  len : ∀ vs H Q E, sp vs H Q E → vs.length = ps.length
  run : ∀ (A : Around) (outer : List Env) (s : Shared) (H : Hp) (args : Args) (us : List Value) (vs : List V) (Q : VK) (E : XK), A.guards = some [] → Room k A → Env0 P w K mg base A outer s H → BindsTo s fd args (ps.zip us) → Vals vs us → sp vs H Q E →
    codeAny (model P w) A (.call (.ref f) args) (CR CX0 outer P w H s Q E) s
theorem FnG.mono {P : Program} {w : World} {K : PySem.W.Frag} {mg : Str → Option Value} {base : Heap} {j k : Nat} {f : Addr} {fd : FuncData} {ps : List Str} {sp : Sp} (F : FnG P w K mg base j f fd ps sp) (h : j ≤ k) : FnG P w K mg base k f fd ps sp :=
  ⟨F.len, fun A o s H a us vs Q E g r => F.run A o s H a us vs Q E g (r.mono h)⟩
theorem fnG {P : Program} {w : World} {K : PySem.W.Frag} {mg : Str → Option Value} {base : Heap} {x qual : Str} {st : Stmt} {f : Addr} {fd : FuncData} {N ps : List Str} {k : Nat} {sp : Sp} (F : Fun K x qual st f fd) (S : FnScope N ps (defScope st)) (len : ∀ vs H Q E, sp vs H Q E → vs.length = ps.length)
    (hbody : ∀ (cdv : Value) (A : Around) (outer : List Env) (s : Shared) (H : Hp) (vs : List V) (Q : VK) (E : XK), Room k (A.deeper (envOfC qual (defScope st) s.heap.objs.size f cdv)) → (A.deeper (envOfC qual (defScope st) s.heap.objs.size f cdv)).guards = some [] → sp vs H Q E →
      ∃ t, PSs (cxOf CX0 P w K mg base N qual (defScope st) f cdv A outer s H E).nox (defBody st) t ∧ t { nx := fun _ H' => Q .non H', rt := Q } (start N vs) H) : FnG P w K mg base (k + 1) f fd ps sp := by
  obtain ⟨oc, od, kV, doc, pm, an, cdv, ct, osl, rfl, lk, hcd⟩ := F.ex
  constructor
  · exact len
  intro A outer s H args us vs Q E hg hr e0 hb r hsp
  have old := fun b o e => (e0.bs b o e).1
  have KX := e0.mod.kin.keeps old
  have lim := e0.mod.nolimit.keeps old
  apply codeAny_call_function hr.depth (KX _ _ lk) rfl S.co S.gen rfl (PySem.W.codeRec_of KX hcd)
  apply hb
  apply wpAny_newFunctionEnv_cells S.kind
  · intro y hy
    exact (S.par y.1 (List.of_mem_zip hy).1).imp id fun q => ⟨q, PySem.W.cellsFrom_some _ _ _ (.inl q)⟩
  intro env he s1 x
  subst he
  refine ⟨lim.keeps x.toInCall.keep, codeAny_func ?_⟩
  obtain ⟨t, ht, hq⟩ := hbody cdv A outer s H vs Q E (hr.deeper _) hg hsp
  have I := inv_start (CX := CX0) (E := E) (base := base) S hr.hd e0 (len _ _ _ _ hsp) r x
  refine wpAny_mono (ht.nox.run [] s1 _ H _ I hq) (fun fl s' hs => ?_) fun e s' hs => hs
  match fl, hs with
  | .ret u, ⟨v, _, H', J, rv, q⟩ => exact ⟨v, H', J.os, J.bare, J.base, J.hok, rv, q⟩
  | .next, ⟨_, H', J, q⟩ => exact ⟨V.non, H', J.os, J.bare, J.base, J.hok, rfl, q⟩
  | .brk, ⟨_, _, _, q⟩ => exact q.elim
  | .cont, ⟨_, _, _, q⟩ => exact q.elim
section
variable {X : Cx} {k : Nat} {f : Addr} {fd : FuncData} {ps : List Str} {sp : Sp} {E : XK} {x : Str} {p pos : Pos} {e : Expr} {es : List Expr} {t : TA}
/-- f(e, ..) of such a def -/
theorem pe_callG (hu : X.A.guards = some []) (F : FnG X.prog X.w X.K X.mg X.base k f fd ps sp) (hr : Room k X.A) (hg : Gl X x) (hm : X.mg x = some (.ref f)) (hk : PySem.W.keepIn X.K (.ref f) = true) (hb : Binds X.K fd ps [])
    (ha : PA X (e :: es) t) (hdb : (x == ("__debug__" : Str)) = false := by decide) (he : starEach (e :: es) X.env = (false, eval e X.env) :: starEach es X.env := by rfl) (hpl : (backTo pos (starEach es X.env)).any (·.1) = false := by rfl) :
    PE X (.Call (.Name x p) (e :: es) [] pos) (tCall sp [] E t) := by
  constructor
  intro pins s σ H Q I h
  apply wpAny_Call_Name_kw (ld_glob I hg hm ?_ hdb)
  refine PySem.W.callWith_K (h₀ := X.base) I.ok.mod.kin hk (thn (ha.run pos pins s σ H _ I h) fun us s1 ⟨vs, H1, I1, r, q⟩ => ⟨I1.kIn, ?_⟩) he hpl
  have q : sp (vs ++ []) H1 Q E := q
  rw [List.append_nil] at q
  have hl : us.length = ps.length := by rw [← r.length]; exact F.len _ _ _ _ q
  have b := hb s1 us I1.kIn (by rw [List.append_nil]; exact hl)
  rw [List.append_nil] at b
  refine wpAny_call (codeAny_mono (F.run X.A X.stack s1 H1 ⟨us, []⟩ us vs Q E hu hr I1.env0 b r q) fun r s' hq => ?_)
  match r, hq with
  | .ok (.ret u), hq => exact I1.after hq
  | .error e, hq => exact False.elim hq
  | .ok .next, hq => exact False.elim hq
  | .ok .brk, hq => exact False.elim hq
  | .ok .cont, hq => exact False.elim hq
/-- repr of a list, a tuple, of things that show -/
theorem call_reprG (hg : X.A.guards = some []) (hr : Room 0 X.A) : CallR X (.builtin "repr") (fun xs H Q => ∃ (a : Addr) (d : PyData), xs = [.ref a] ∧ Dp X.K H (.ref a) d ∧ d.showable = true ∧ d.hasDict = false ∧ d.depth ≤ 64 ∧ d.shown.length ≤ sizeLine ∧ Q (.str d.shown) H) := by
  intro pins s σ H xs us Q I r h
  obtain ⟨a, d, rfl, hd, hs, hn, hp, hz, q⟩ := h
  rw [Vals.ref1 r]
  obtain ⟨as, hR⟩ := Dp.reads I d _ (.ref a) hd rfl
  have hu := hr.un
  exact repr_of_reads' hR hs (fun z => by rw [hn] at z; cases z) hg (by omega) (fun _ _ e => e) (fun h' u tk hk => ⟨.str _, H, I.kept hk, ⟨_, rfl⟩, q⟩) hz
end
theorem call_repr_bl {X : Cx} : CallR X (.builtin "repr") (fun xs H Q => ∃ b : Bool, xs = [.bl b] ∧ Q (.str (if b then "True" else "False")) H) := by
  intro pins s σ H xs us Q I r h
  obtain ⟨b, rfl, q⟩ := h
  cases r with
  | cons ru rn =>
    cases rn
    cases ru
    exact PySem.P.repr_of_bool ⟨.str _, H, I.tok _, ⟨_, rfl⟩, q⟩
/-! ### the head's call of such a law -/
theorem law_callG {P : Program} {w : World} {K : PySem.W.Frag} {mg mb : Str → Option Value} {k : Nat} {fa a : Addr} {fd : FuncData} {x : Str} {sp : Sp} {s : Shared} {vs : List Value} {ns : List Int}
    (KX : K.In s.heap) (hns : s.heap.Ns mainGlobals mg) (hb : s.heap.Ns builtinsNs mb) (hbb : ∀ x : Str, x ≠ "__name__" → mb x = bootBuiltins x) (hlim : s.heap.NoLimit) (hg : s.gens = #[])
    (ha : s.heap.get? a = some { cls := .type "list", data := .seq vs.toArray }) (hi : IntsAre vs ns) (hl : ns.length ≤ sizeLine) (hr : Room k callerA)
    (F : ∀ base : Heap, K.In base → base.Ns mainGlobals mg → FnG P w K mg base k fa fd [x] sp) (hbind : ∀ (s : Shared) (u : Value), BindsTo s fd ⟨[u], []⟩ [(x, u)])
    (hsp : ∀ H : Hp, Only H → SqL K H a (ns.map V.int) → sp [.ref a] H (fun v _ => v = .bl true) fun _ _ _ => False) :
    codeAny (model P w) callerA (.call (.ref fa) ⟨[.ref a], []⟩) (fun r s' => r = .ok (.ret (.bool true)) ∧ OldK s.heap s'.heap ∧ s'.os = s.os ∧ AllBare s'.gens) s := by
  let fz : HO := .frz { cls := .type "list", data := .seq vs.toArray } (.lst (ns.map V.int))
  let H : Hp := fun b => if b = a ∧ K.lookup a = none then some fz else none
  have rv := vals_ints hi
  have hH : ∀ {b : Addr} {u : HO}, H b = some u → b = a ∧ K.lookup a = none ∧ u = fz := fun {b u} z => by
    by_cases q : b = a ∧ K.lookup a = none
    · have z' := (if_pos q).symm.trans z
      exact ⟨q.1, q.2, (Option.some.inj z').symm⟩
    · have z' := (if_neg q).symm.trans z
      cases z'
  have hO : Only H := fun b => by
    by_cases q : b = a ∧ K.lookup a = none
    · exact .inr ⟨_, _, if_pos q⟩
    · exact .inl (if_neg q)
  have hok : HOk P w H s.heap := fun b u z => by
    obtain ⟨rfl, _, rfl⟩ := hH z
    exact ⟨ha, by rw [List.length_map]; exact hl, vs, _, rv, ha⟩
  have hS : SqL K H a (ns.map V.int) := by
    cases hk : K.lookup a with
    | some o =>
      have e := KX a o hk
      rw [ha] at e
      cases e
      exact .inr ⟨_, vs.toArray, _, hk, rfl, rfl, rfl, by rw [List.size_toArray, hi.length]; exact hl, by simpa using rv⟩
    | none => exact .inl (.inr ⟨_, if_pos ⟨rfl, hk⟩⟩)
  have hid : ∀ {b : Addr} {o : Obj}, s.heap.get? b = some o → (b = a → K.lookup a = none → False) → (hidT s.heap H).get? b = some o := fun {b o} e n => hidT_get e (by
    cases q : H b with
    | none => rfl
    | some u => exact (n (hH q).1 (hH q).2.1).elim)
  have nsK : ∀ {b : Addr} {m : Str → Option Value}, s.heap.Ns b m → (hidT s.heap H).Ns b m := fun {b m} ⟨o, es, ep, e, d, r⟩ => ⟨o, es, ep, hid e (fun z _ => by
    subst z
    rw [ha] at e
    cases e
    have d' : Data.seq vs.toArray _ = Data.dict es ep := d
    cases d'), d, r⟩
  have hKb : K.In (hidT s.heap H) := fun b o e => hid (KX b o e) fun z n => by
    subst z
    rw [n] at e
    cases e
  have e0 : Env0 P w K mg (hidT s.heap H) callerA [] s H := ⟨rfl, ⟨hKb, nsK hns, ⟨mb, nsK hb, hbb⟩, hlim.elim fun mc h => ⟨mc, nsK h.1, h.2⟩⟩, fun b o e => of_hidT e, Nat.le_of_eq (hidT_size _ _), trivial, fun b hb => absurd hb List.not_mem_nil, hok, .of_eq hg⟩
  refine codeAny_mono ((F _ hKb (nsK hns)).run callerA [] s H ⟨[.ref a], []⟩ [.ref a] [.ref a] _ _ rfl hr e0 (hbind s (.ref a)) (.cons rfl .nil) (hsp H hO hS)) fun r s' h => ?_
  match r, h with
  | .error e, h => exact h.elim
  | .ok .next, h => exact False.elim h
  | .ok .brk, h => exact False.elim h
  | .ok .cont, h => exact False.elim h
  | .ok (.ret u), ⟨v, H', os, bare, un, hok', r', q⟩ =>
    obtain rfl : v = .bl true := q
    obtain rfl : u = Value.bool true := r'
    refine ⟨rfl, OldK.of_keep fun b o e => ?_, os, bare⟩
    cases q : H b with
    | none => exact un.keep b o e q (fun z => List.not_mem_nil z) List.not_mem_nil
    | some u =>
      obtain ⟨rfl, _, rfl⟩ := hH q
      obtain ⟨e1, _⟩ := hok _ _ q
      obtain ⟨e2, _⟩ := hok' _ _ (un.frzs _ _ _ q)
      rw [e] at e1
      cases e1
      exact e2
theorem walk_ofG {l : PySem.W.OpenLaw} {n k : Nat} {q : Program} {loose : List Str} {XP : (Str → Option Value) → Heap → Prop} {YP : World → Heap → Prop} {d : DefRec} {K : Params → PySem.W.Frag} {sp : World → Sp} {x : Str}
    (hn : l.most = some n) (hn2 : n ≤ sizeLine) (hdf : d.params.defaults = []) (hr : Room k callerA)
    (hY : ∀ (w : World) (h : Heap), YP w h → (K w.params).In h)
    (F : ∀ (w : World) (mg : Str → Option Value) (fa : Addr) (h : Heap), (K w.params).In h → h.Ns mainGlobals mg → mg d.name = some (.ref fa) →
      ∃ fd : FuncData, (∀ (s : Shared) (u : Value), BindsTo s fd ⟨[u], []⟩ [(x, u)]) ∧ ∀ base : Heap, (K w.params).In base → base.Ns mainGlobals mg → FnG l.prog w (K w.params) mg base k fa fd [x] (sp w))
    (hsp : ∀ (w : World) (H : Hp) (a : Addr) (ns : List Int), ns.length ≤ n → Only H → SqL (K w.params) H a (ns.map V.int) → sp w [.ref a] H (fun v _ => v = .bl true) fun _ _ _ => False) :
    PySem.W.WalkO q loose XP YP l.row.toRowW d [] (fun f vs => PySem.call f vs) := by
  apply Att.attach_call hn hdf
  intro w s₀ s₁ mg mb fa o pm cd doc a vs ns G Y ho hd hcd hmg hobj hints hlen hg
  obtain ⟨fd, hb, hF⟩ := F w mg fa _ (hY w _ Y) G.T.g hmg
  exact law_callG (hY w _ Y) G.T.g G.T.b G.T.builtins G.T.nolimit hg hobj hints (Nat.le_trans hlen hn2) hr hF hb fun H hO hS => hsp w H a ns hlen hO hS
end Hx

set_option Elab.async false
set_option linter.all false
set_option maxRecDepth 100000
set_option maxHeartbeats 4000000
namespace Hx
open PySem PySem.Spec PyProof.Rows L2
/-- x == y by the class's own ==, whatever it answers -/
theorem op_eqOwn {X : Cx} {n : Nat} {C f : Addr} {fd : FuncData} {ps : List Str} {sp : Sp} (F : FnOk X.prog X.w X.K X.mg X.base CX0 n f fd ps sp) (hr : Room n X.A)
    (hs : PySem.W.findIn X.K (.ref C) "__eq__" = some (some (.ref f))) (hf : PySem.W.isFn X.K (.ref f) = true) (hb : Binds X.K fd ps []) :
    OpR X (compareOp .Eq) (fun x y H Q => ∃ a b dx dy fs gs, x = .ref a ∧ y = .ref b ∧ H a = some (.ins C dx fs) ∧ H b = some (.ins C dy gs) ∧ sp [.ref a, .ref b] H (fun v H' => ∃ c, v = .bl c ∧ Q (.bl c) H') (fun _ _ _ => False)) := by
  intro pins s σ H x y v u Q I rx ry h
  obtain ⟨a, b, dx, dy, fs, gs, rfl, rfl, ha, hb', hsp⟩ := h
  cases rx
  cases ry
  obtain ⟨mA, J, _⟩ := ins_get I.hok ha
  obtain ⟨mB, J', _⟩ := ins_get I.hok hb'
  obtain ⟨od, J, _⟩ := J.look
  obtain ⟨od', J', _⟩ := J'.look
  obtain ⟨m, hF⟩ := I.fr
  have hu := hr.un
  refine PySem.W.cmp_K (op := .Eq) (tb := .ref C) (by omega) hF I.ok.mod.kin J J'.type (by simp [PySem.W.notFirst]) hs hf ?_
  have hl := F.len _ _ _ _ hsp
  have r2 : Vals [V.ref a, V.ref b] [Value.ref a, Value.ref b] := .cons rfl (.cons rfl .nil)
  have hB : BindsTo s fd ⟨[.ref a, .ref b], []⟩ (ps.zip [.ref a, .ref b]) := by
    have := hb s [.ref a, .ref b] I.kIn (by simpa using hl)
    simpa using this
  refine wpAny_call (codeAny_mono (F.run X.A X.stack s H ⟨[.ref a, .ref b], []⟩ [.ref a, .ref b] [.ref a, .ref b] _ _ hr I.env0 hB r2 hsp) fun r s' hq => ?_)
  match r, hq with
  | .ok (.ret w), hq =>
    obtain ⟨z, H', I', rz, c, rfl, q⟩ := I.after hq
    cases rz
    exact ⟨.bl c, H', I', rfl, q⟩
  | .error e, hq => exact False.elim hq
  | .ok .next, hq => exact False.elim hq
  | .ok .brk, hq => exact False.elim hq
  | .ok .cont, hq => exact False.elim hq
/-! ### how long the text of whole numbers is -/
theorem text_le : ∀ (ts : List Str) (k : Nat) (acc : Str), (textFrom k acc ts).length ≤ acc.length + piled ts
  | [], _, acc => Nat.le_add_right _ _
  | t :: r, k, acc => by
    have ih := text_le r (k + 1) (acc ++ (if k > 0 then ", " else "" : String) ++ t)
    have e : (acc ++ (if k > 0 then ", " else "" : String) ++ t).length ≤ acc.length + 2 + t.length := by
      rw [strLen_append, strLen_append]
      split
      · exact Nat.le_refl _
      · exact Nat.add_le_add_right (Nat.add_le_add_left (Nat.zero_le 2) _) _
    show (textFrom (k + 1) _ r).length ≤ _
    rw [piled_cons]; omega
theorem piled_words : ∀ ns : List Int, (∀ n ∈ ns, 0 ≤ n ∧ n < 10 ^ 20) → piled (PyData.shownAll (ns.map PyData.int)) ≤ 22 * ns.length
  | [], _ => Nat.le_refl _
  | n :: r, h => by
    have i := piled_words r fun x hx => h x (List.mem_cons_of_mem _ hx)
    have j := toString_length_le (h n List.mem_cons_self).1 (by decide : 0 < 20) (h n List.mem_cons_self).2
    rw [List.map_cons, PyData.shownAll, piled_cons, PyData.shown, List.length_cons]
    omega
theorem words_dict : ∀ ns : List Int, PyData.hasDictAll (ns.map PyData.int) = false
  | [] => rfl
  | n :: r => by rw [List.map_cons, PyData.hasDictAll, PyData.hasDict, words_dict r] <;> rfl
theorem log_small {n : Int} (h : 0 ≤ n ∧ n < 10 ^ 20) : n.natAbs.log2 < 1920 := by
  by_cases z : n.natAbs = 0
  · rw [z]; decide
  · refine Nat.lt_trans (m := 67) ?_ (by decide)
    rw [Nat.log2_lt z]
    omega
theorem words_show : ∀ ns : List Int, (∀ n ∈ ns, 0 ≤ n ∧ n < 10 ^ 20) → PyData.showableAll (ns.map PyData.int) = true
  | [], _ => rfl
  | n :: r, h => by
    rw [List.map_cons, PyData.showableAll, PyData.showable, words_show r fun x hx => h x (List.mem_cons_of_mem _ hx), decide_eq_true (log_small (h n List.mem_cons_self))] <;> rfl
theorem words_depth : ∀ ns : List Int, PyData.depthAll (ns.map PyData.int) = 0
  | [] => by simp [PyData.depthAll]
  | n :: r => by simp [PyData.depthAll, PyData.depth, words_depth r]
/-- a list of words: all that repr asks -/
theorem shown_words {ns : List Int} (h : ∀ n ∈ ns, 0 ≤ n ∧ n < 10 ^ 20) (hl : ns.length ≤ 400) : (PyData.list (ns.map PyData.int)).showable = true ∧ (PyData.list (ns.map PyData.int)).hasDict = false ∧ (PyData.list (ns.map PyData.int)).depth ≤ 64 ∧ (PyData.list (ns.map PyData.int)).shown.length ≤ sizeLine := by
  refine ⟨by rw [PyData.showable]; exact words_show ns h, by rw [PyData.hasDict]; exact words_dict ns, by rw [PyData.depth, words_depth]; decide, ?_⟩
  rw [PyData.shown]
  have a := text_le (PyData.shownAll (ns.map PyData.int)) 0 "["
  have b := piled_words ns h
  show (textFrom 0 "[" _ ++ "]").length ≤ _
  rw [strLen_append, sizeLine_eq]
  have e : (("[" : String) : Str).length = 1 := rfl
  have e2 : (("]" : String) : Str).length = 1 := rfl
  rw [e] at a
  rw [e2]
  omega
/-! ### o.m(b=.., a=..) of two, in the other sequence -/
def kwR {α : Type} (us ws : List α) : List α := match us, ws with | [x], [b, a] => [x, a, b] | _, _ => []
theorem kw_bindsR {K : PySem.W.Frag} {x qual : Str} {st : Stmt} {f : Addr} {fd : FuncData} {ps : List Str} {p0 p1 p2 : Str} (F : Fun K x qual st f fd) (hp : ps = [p0, p1, p2])
    (h : ∀ (kV doc pm : Value) (an : Option Addr) (cdv ct : Value) (u a b : Value), bindArgs (PySem.W.fnOf x qual (defArgs st) (defBody st) (defScope st) .none kV doc pm an cdv ct) ⟨[u], [(p2, b), (p1, a)]⟩ = pure [(p0, u), (p1, a), (p2, b)]) : KBinds K fd ps [p2, p1] kwR kwR := by
  obtain ⟨oc, od, kV, doc, pm, an, cdv, ct, osl, rfl, lk, hcd⟩ := F.ex
  subst hp
  refine ⟨fun s us ws _ hl => ?_, fun {vs us zs ws} r1 r2 => ?_⟩
  · match us, ws, hl with
    | [u], [b, a], _ => exact .of_eq (h kV doc pm an cdv ct u a b)
    | [], _, hl => simp [kwR] at hl
    | [_], [], hl => simp [kwR] at hl
    | [_], [_], hl => simp [kwR] at hl
    | [_], _ :: _ :: _ :: _, hl => simp [kwR] at hl
    | _ :: _ :: _, _, hl => simp [kwR] at hl
  · cases r1 with
    | nil => exact .nil
    | cons a t =>
      cases t with
      | cons b t => exact .nil
      | nil =>
        cases r2 with
        | nil => exact .nil
        | cons b r2 =>
          cases r2 with
          | nil => exact .nil
          | cons c r2 =>
            cases r2 with
            | nil => exact .cons a (.cons c (.cons b .nil))
            | cons _ _ => exact .nil
/-! ### a list of ints beside the empty one -/
theorem eqv_nil (ns : List Int) : PyData.eqv (.list (ns.map PyData.int)) (.list []) = ns.isEmpty := by
  cases ns with
  | nil => exact eqv_ints []
  | cons a r => simp [PyData.eqv, PyData.eqvAll]
theorem op_neNil {X : Cx} (hu : X.A.units + 64 < cLine) : OpR X (compareOp .NotEq) (fun x y H Q => ∃ (p q : Addr) (ns : List Int), x = .ref p ∧ y = .ref q ∧ SqL X.K H p (ns.map V.int) ∧ SqL X.K H q [] ∧ Q (.bl (!ns.isEmpty)) H) := by
  intro pins s σ H x y v u Q I rx ry ⟨p, q, ns, e1, e2, h1, h2, k⟩
  refine op_neD hu pins s σ H x y v u Q I rx ry ⟨.list (ns.map PyData.int), .list [], ?_, ?_, ?_, ?_, ?_⟩
  · rw [e1]; exact .lst h1 (dp_ints ns)
  · rw [e2]; exact .lst h2 .nil
  · exact sh_ints ns
  · exact sh_ints []
  · rw [eqv_nil]; exact k
end Hx

set_option Elab.async false
set_option linter.all false
set_option maxRecDepth 100000
set_option maxHeartbeats 4000000
namespace Hx
open PySem PySem.Spec PyProof.Rows L2
/-! ### lists of pairs of ints; things of the same data in a grown heap -/
def rowD (r : Int × Int) : PyData := .tuple [.int r.1, .int r.2]
def rowsD (rs : List (Int × Int)) : PyData := .list (rs.map rowD)
theorem dp_rows {K : PySem.W.Frag} {H : Hp} : ∀ (ts : List Addr) (rs : List (Int × Int)), ts.length = rs.length → (∀ (i : Nat) (t : Addr) (r : Int × Int), ts[i]? = some t → rs[i]? = some r → H t = some (.tup [.int r.1, .int r.2])) → DpAll K H (ts.map V.ref) (rs.map rowD)
  | [], [], _, _ => .nil
  | t :: ts, r :: rs, hl, h => .cons (.tup (SqT.of (h 0 t r rfl rfl)) (.cons (.int _) (.cons (.int _) .nil))) (dp_rows ts rs (by simpa using hl) fun i t' r' h1 h2 => h (i + 1) t' r' (by simpa using h1) (by simpa using h2))
  | [], _ :: _, hl, _ => by simp at hl
  | _ :: _, [], hl, _ => by simp at hl
theorem rows_sh (rs : List (Int × Int)) : SeqAt.shaped (rowsD rs) = true := flat_sh (n := 2) (flat_list (n := 1) fun d hd => by
  obtain ⟨r, _, rfl⟩ := List.mem_map.mp hd
  exact flat_tup (n := 0) fun d hd => by
    simp at hd
    rcases hd with rfl | rfl <;> exact flat_int 0 _)
theorem sqt_same {K : PySem.W.Frag} {H H' : Hp} {a : Addr} {xs : List V} (s : Same H H') (h : SqT K H a xs) : SqT K H' a xs := h.elim (fun r => r.elim (fun e => .inl (.inl (s _ _ e))) (fun ⟨o, e⟩ => .inl (.inr ⟨o, s _ _ e⟩))) .inr
mutual
theorem dp_same {K : PySem.W.Frag} {H H' : Hp} (s : Same H H') : ∀ (d : PyData) (v : V), Dp K H v d → Dp K H' v d
  | .none, _, h => by cases h; exact .non
  | .bool b, _, h => by cases h; exact .bl b
  | .int i, _, h => by cases h; exact .int i
  | .str x, _, h => by cases h; exact .str x
  | .list ds, _, h => by cases h with | lst h1 h2 => exact .lst (L2.Same.seq s h1) (dpA_same s ds _ h2)
  | .tuple ds, _, h => by cases h with | tup h1 h2 => exact .tup (sqt_same s h1) (dpA_same s ds _ h2)
  | .dict _, _, h => by cases h
theorem dpA_same {K : PySem.W.Frag} {H H' : Hp} (s : Same H H') : ∀ (ds : List PyData) (vs : List V), DpAll K H vs ds → DpAll K H' vs ds
  | [], _, h => by cases h; exact .nil
  | d :: ds, _, h => by cases h with | cons h1 h2 => exact .cons (dp_same s d _ h1) (dpA_same s ds _ h2)
end
end Hx

set_option Elab.async false
set_option linter.all false
set_option maxRecDepth 100000
set_option maxHeartbeats 4000000
namespace Hx
open PySem PySem.Spec PyProof.Rows L2
/-! ### keywords in any sequence: n values by place, then those of the permutation -/
def kwP {α : Type} (n : Nat) (perm : List Nat) (us ws : List α) : List α := if us.length = n ∧ ws.length = perm.length then us ++ perm.filterMap (fun i => ws[i]?) else []
theorem vals_append {a b : List V} {x y : List Value} (h : Vals a x) (k : Vals b y) : Vals (a ++ b) (x ++ y) := by
  induction h with
  | nil => exact k
  | cons r t ih => exact .cons r ih
theorem vals_get {a : List V} {x : List Value} (h : Vals a x) : ∀ i : Nat, (∃ v u, a[i]? = some v ∧ x[i]? = some u ∧ RelV v u) ∨ (a[i]? = none ∧ x[i]? = none) := by
  induction h with
  | nil => exact fun i => .inr ⟨by simp, by simp⟩
  | cons r t ih =>
    intro i
    cases i with
    | zero => exact .inl ⟨_, _, rfl, rfl, r⟩
    | succ j => simpa using ih j
theorem vals_perm {a : List V} {x : List Value} (h : Vals a x) : ∀ perm : List Nat, Vals (perm.filterMap (fun i => a[i]?)) (perm.filterMap (fun i => x[i]?))
  | [] => .nil
  | i :: r => by
    have t := vals_perm h r
    rcases vals_get h i with ⟨v, u, e1, e2, q⟩ | ⟨e1, e2⟩
    · rw [List.filterMap_cons, List.filterMap_cons, e1, e2]; exact .cons q t
    · rw [List.filterMap_cons, List.filterMap_cons, e1, e2]; exact t
theorem vals_kwP {n : Nat} {perm : List Nat} {vs zs : List V} {us ws : List Value} (h : Vals vs us) (k : Vals zs ws) : Vals (kwP n perm vs zs) (kwP n perm us ws) := by
  unfold kwP
  rw [h.length, k.length]
  split
  · exact vals_append h (vals_perm k perm)
  · exact .nil
theorem kw_bindsP {K : PySem.W.Frag} {x qual : Str} {st : Stmt} {f : Addr} {fd : FuncData} {ps ks : List Str} {n : Nat} {perm : List Nat} (F : Fun K x qual st f fd) (h0 : 0 < ps.length)
    (h : ∀ (kV doc pm : Value) (an : Option Addr) (cdv ct : Value) (us ws : List Value), us.length = n → ws.length = perm.length → bindArgs (PySem.W.fnOf x qual (defArgs st) (defBody st) (defScope st) .none kV doc pm an cdv ct) ⟨us, ks.zip ws⟩ = pure (ps.zip (kwP n perm us ws))) : KBinds K fd ps ks (kwP n perm) (kwP n perm) := by
  obtain ⟨oc, od, kV, doc, pm, an, cdv, ct, osl, rfl, lk, hcd⟩ := F.ex
  refine ⟨fun s us ws _ hl => ?_, fun r1 r2 => vals_kwP r1 r2⟩
  by_cases q : us.length = n ∧ ws.length = perm.length
  · exact .of_eq (h kV doc pm an cdv ct us ws q.1 q.2)
  · unfold kwP at hl; rw [if_neg q] at hl; simp at hl; omega
theorem kw_bindsN {K : PySem.W.Frag} {x qual : Str} {st : Stmt} {f : Addr} {fd : FuncData} {ps ks : List Str} {n : Nat} {perm : List Nat} (F : Fun K x qual st f fd) (h0 : ks.length = perm.length)
    (h : ∀ (kV doc pm : Value) (an : Option Addr) (cdv ct : Value) (us ws : List Value), us.length = n → ws.length = perm.length → bindArgs (PySem.W.fnOf x qual (defArgs st) (defBody st) (defScope st) .none kV doc pm an cdv ct) ⟨us, ks.zip ws⟩ = pure (ps.zip (kwP n perm us ws))) : KBn K fd ps n ks (kwP n perm) (kwP n perm) := by
  obtain ⟨oc, od, kV, doc, pm, an, cdv, ct, osl, rfl, lk, hcd⟩ := F.ex
  exact ⟨fun s us ws _ l1 l2 => .of_eq (h kV doc pm an cdv ct us ws l1 (l2.trans h0)), fun r1 r2 => vals_kwP r1 r2⟩
/-! ### an own == beside a list -/
theorem op_eqOwnL {X : Cx} {n : Nat} {C f : Addr} {fd : FuncData} {ps : List Str} {sp : Sp} (F : FnOk X.prog X.w X.K X.mg X.base CX0 n f fd ps sp) (hr : Room n X.A)
    (hs : PySem.W.findIn X.K (.ref C) "__eq__" = some (some (.ref f))) (hf : PySem.W.isFn X.K (.ref f) = true) (hb : Binds X.K fd ps []) (hsl : PySem.W.subIn X.K (.type "list") (.ref C) = some false) :
    OpR X (compareOp .Eq) (fun x y H Q => ∃ a b dx fs xs, x = .ref a ∧ y = .ref b ∧ H a = some (.ins C dx fs) ∧ H b = some (.lst xs) ∧ sp [.ref a, .ref b] H (fun v H' => ∃ c, v = .bl c ∧ Q (.bl c) H') (fun _ _ _ => False)) := by
  intro pins s σ H x y v u Q I rx ry h
  obtain ⟨a, b, dx, fs, xs, rfl, rfl, ha, hb', hsp⟩ := h
  cases rx
  cases ry
  obtain ⟨mA, J, _⟩ := ins_get I.hok ha
  obtain ⟨od, J, _⟩ := J.look
  obtain ⟨_, _, nn, _, h1⟩ := (show ObjOk X.prog X.w H s.heap b (.lst xs) from I.hok b _ hb')
  obtain ⟨m, hF⟩ := I.fr
  have hu := hr.un
  refine PySem.W.cmp_K (op := .Eq) (tb := .type "list") (by omega) hF I.ok.mod.kin J (fun A Q E s k q => wpAny_typeOf_ref (k _ _ h1) q) (by simp [PySem.W.notFirst, hsl]) hs hf ?_
  have hl := F.len _ _ _ _ hsp
  have r2 : Vals [V.ref a, V.ref b] [Value.ref a, Value.ref b] := .cons rfl (.cons rfl .nil)
  have hB : BindsTo s fd ⟨[.ref a, .ref b], []⟩ (ps.zip [.ref a, .ref b]) := by
    have := hb s [.ref a, .ref b] I.kIn (by simpa using hl)
    simpa using this
  refine wpAny_call (codeAny_mono (F.run X.A X.stack s H ⟨[.ref a, .ref b], []⟩ [.ref a, .ref b] [.ref a, .ref b] _ _ hr I.env0 hB r2 hsp) fun r s' hq => ?_)
  match r, hq with
  | .ok (.ret w), hq =>
    obtain ⟨z, H', I', rz, c, rfl, q⟩ := I.after hq
    cases rz
    exact ⟨.bl c, H', I', rfl, q⟩
  | .error e, hq => exact False.elim hq
  | .ok .next, hq => exact False.elim hq
  | .ok .brk, hq => exact False.elim hq
  | .ok .cont, hq => exact False.elim hq
theorem kit_not {K : PySem.W.Frag} {C : Addr} (h1 : PySem.W.isClsIn K C = true) (h2 : PySem.W.typeIn K (.ref C) = some (.type "type")) (h3 : PySem.W.subIn K (.type "list") (.ref C) = some false) : PySem.W.kitOne K (.type "list") (.ref C) = some false := by
  have e : ((PySem.W.clsIn K C).isSome && PySem.W.typeIn K (.ref C) == some (.type "type")) = true := by
    have h1' : (PySem.W.clsIn K C).isSome = true := h1
    rw [h1', h2] <;> rfl
  show (if ((Value.type "list" == .ref C) = true) then some true else (if ((PySem.W.clsIn K C).isSome && PySem.W.typeIn K (.ref C) == some (.type "type")) = true then PySem.W.subIn K (.type "list") (.ref C) else none)) = some false
  rw [if_neg (by intro z; cases z), if_pos e]
  exact h3
/-! ### a comprehension that sifts -/
theorem lc_filt {α : Type} {K : PySem.W.Frag} {a : Addr} {g : TG} {tt : TT} {te : TE} {vs : List Nat} {σ : L2.St} {H1 : Hp} {D : Addr} {Qd : Hp → Prop} (zs : List α) (f : α → V) (t : α → Bool) (ha : SqL K H1 a (zs.map f)) (hD : H1 D = none) (hz : zs.length ≤ 10000)
    (hs : ∀ (i : Nat) (z : α) (H' : Hp) (Qn : Hp → Prop) (Qy : VK), zs[i]? = some z → Same H1 H' → (t z = false → ∀ H'', Same H' H'' → Qn H'') → (t z = true → ∀ H'', Same H' H'' → Qy (f z) H'') → g (f z) (wipe σ vs) H' fun σ2 H2 => wipe σ2 vs = wipe σ vs ∧ tt σ2 H2 fun b H3 => if b = true then te σ2 H3 Qy else Qn H3)
    (hd : ∀ H', Same H1 H' → H' D = some (.lst ((zs.filter t).map f)) → Qd H') :
    ∃ W : Nat → Nat → Hp → Prop, (∃ m, W 0 m (upd H1 D (.lst []))) ∧ ∀ i m H, W i m H →
      ((Itl K a).stop i H ∧ Qd H) ∨ ((Itl K a).go i H ∧ ∃ Nx : Hp → Prop, (∀ H', Nx H' → ∃ m', m' < m ∧ W (i + 1) m' H') ∧ ∀ x H', (Itl K a).yld i H x H' → g x (wipe σ vs) H' fun σ2 H2 => wipe σ2 vs = wipe σ vs ∧ tt σ2 H2 fun b H3 =>
        if b = true then te σ2 H3 fun y H4 => ∃ acc, H4 D = some (.lst acc) ∧ acc.length < sizeLine ∧ Nx (upd H4 D (.lst (acc ++ [y]))) else Nx H3) := by
  refine lc_list (xs := zs.map f) (fun i H => Same H1 H ∧ H D = some (.lst (((zs.take i).filter t).map f))) ⟨same_upd hD, upd_same⟩ (fun i H _ h => L2.Same.seq h.1 ha) (fun i x H hx h => ?_) (fun H h => hd H h.1 (by rw [h.2, List.length_map, List.take_length]))
  rw [List.getElem?_map] at hx
  obtain ⟨z, hz1, rfl⟩ := Option.map_eq_some_iff.mp hx
  have et : zs.take (i + 1) = zs.take i ++ [z] := by rw [List.take_add_one, hz1]; rfl
  refine hs i z H _ _ hz1 h.1 (fun tn H'' s => ?_) (fun ty H'' s => ?_)
  · refine ⟨L2.Same.trans h.1 s, ?_⟩
    rw [s _ _ h.2, et, List.filter_append, List.filter_cons_of_neg (by simp [tn]), List.filter_nil, List.append_nil]
  · refine ⟨((zs.take i).filter t).map f, s _ _ h.2, size_lt ?_, same_set (L2.Same.trans h.1 s) hD, ?_⟩
    · have := List.length_filter_le t (zs.take i)
      simp at this ⊢; omega
    · rw [upd_same, et, List.filter_append, List.filter_cons_of_pos ty, List.filter_nil, List.map_append]; rfl
/-! ### parts of a list -/
theorem cut_from (xs : List V) (k : Nat) : cutV xs (some (k : Int)) none = xs.drop k := by
  unfold cutV
  rw [HT.sIx_nat, HT.sIx_none, List.take_of_length_le (by rw [List.length_drop]; omega)]
  by_cases h : k ≤ xs.length
  · rw [Nat.min_eq_left h]
  · rw [Nat.min_eq_right (by omega), List.drop_length, List.drop_of_length_le (by omega)]
theorem cut_to (xs : List V) (k : Nat) : cutV xs none (some (k : Int)) = xs.take k := by
  unfold cutV
  rw [HT.sIx_nat, HT.sIx_none, List.drop_zero, Nat.sub_zero]
  by_cases h : k ≤ xs.length
  · rw [Nat.min_eq_left h]
  · rw [Nat.min_eq_right (by omega), List.take_length, List.take_of_length_le (by omega)]
/-! ### a list beside the empty one -/
theorem eqv_nilD (ds : List PyData) : PyData.eqv (.list ds) (.list []) = ds.isEmpty := by
  cases ds with
  | nil => rfl
  | cons a r => simp [PyData.eqv, PyData.eqvAll]
end Hx

set_option Elab.async false
set_option linter.all false
set_option maxRecDepth 100000
set_option maxHeartbeats 4000000
/-! HsSep: what is owned of a heap, as a list; a part of the heap that never changes; frames. -/
namespace L2
open PySem PySem.Spec PyProof.Rows
variable {K : PySem.W.Frag}
theorem DpAll.app' {M : Hp} : ∀ {vs us : List V} {ds es : List PyData}, DpAll K M vs ds → DpAll K M us es → DpAll K M (vs ++ us) (ds ++ es)
  | _, _, _, _, .nil, y => y
  | _, _, _, _, .cons x z, y => .cons x (DpAll.app' z y)
theorem DpAll.get {M : Hp} : ∀ {vs : List V} {ds : List PyData} {i : Nat} {v : V}, DpAll K M vs ds → vs[i]? = some v → ∃ d, ds[i]? = some d ∧ Dp K M v d
  | _, _, _, _, .nil, e => by simp at e
  | _, _, 0, _, .cons x _, e => by simp at e; subst e; exact ⟨_, rfl, x⟩
  | _, _, i + 1, v, .cons _ y, e => by
    obtain ⟨d, h1, h2⟩ := DpAll.get (i := i) (v := v) y (by simpa using e)
    exact ⟨d, by simpa using h1, h2⟩
theorem DpAll.get' {M : Hp} : ∀ {vs : List V} {ds : List PyData} {i : Nat} {v : V} {d : PyData}, DpAll K M vs ds → vs[i]? = some v → ds[i]? = some d → Dp K M v d := fun h e1 e2 => by
  obtain ⟨d', h1, h2⟩ := h.get e1
  rw [e2] at h1; cases h1; exact h2
theorem DpAll.len {M : Hp} : ∀ {vs : List V} {ds : List PyData}, DpAll K M vs ds → vs.length = ds.length
  | _, _, .nil => rfl
  | _, _, .cons _ y => by simp [DpAll.len y]
theorem DpAll.take {M : Hp} : ∀ {vs : List V} {ds : List PyData} (n : Nat), DpAll K M vs ds → DpAll K M (vs.take n) (ds.take n)
  | _, _, 0, _ => by simpa using DpAll.nil
  | _, _, _ + 1, .nil => by simpa using DpAll.nil
  | _, _, n + 1, .cons x y => by simpa using DpAll.cons x (DpAll.take n y)
theorem DpAll.drop {M : Hp} : ∀ {vs : List V} {ds : List PyData} (n : Nat), DpAll K M vs ds → DpAll K M (vs.drop n) (ds.drop n)
  | _, _, 0, h => by simpa using h
  | _, _, _ + 1, .nil => by simpa using DpAll.nil
  | _, _, n + 1, .cons _ y => by simpa using DpAll.drop n y
theorem DpAll.set {M : Hp} {v : V} {d : PyData} (x : Dp K M v d) : ∀ {vs : List V} {ds : List PyData} (n : Nat), DpAll K M vs ds → DpAll K M (vs.set n v) (ds.set n d)
  | _, _, _, .nil => by simpa using DpAll.nil
  | _, _, 0, .cons _ y => by simpa using DpAll.cons x y
  | _, _, n + 1, .cons z y => by simpa using DpAll.cons z (DpAll.set x n y)
theorem DpAll.erase {M : Hp} : ∀ {vs : List V} {ds : List PyData} (n : Nat), DpAll K M vs ds → DpAll K M (vs.eraseIdx n) (ds.eraseIdx n)
  | _, _, _, .nil => by simpa using DpAll.nil
  | _, _, 0, .cons _ y => by simpa using y
  | _, _, n + 1, .cons x y => by simpa using DpAll.cons x (DpAll.erase n y)
theorem DpAll.dropLast {M : Hp} {vs : List V} {ds : List PyData} (h : DpAll K M vs ds) : DpAll K M vs.dropLast ds.dropLast := by
  rw [List.dropLast_eq_take, List.dropLast_eq_take, h.len]; exact h.take _
theorem DpAll.rev {M : Hp} : ∀ {vs : List V} {ds : List PyData}, DpAll K M vs ds → DpAll K M vs.reverse ds.reverse
  | _, _, .nil => .nil
  | _, _, .cons x y => by rw [List.reverse_cons, List.reverse_cons]; exact DpAll.app' (DpAll.rev y) (.cons x .nil)
end L2
namespace Hx
open PySem PySem.Spec PyProof.Rows L2
/-- what stands at an owned address -/
inductive Ob where
  | raw (o : HO)
  | such (φ : HO → Prop)
  | L (ds : List PyData)
  | D (kds : List (Key × PyData))
/-- M: the part that never changes -/
def Hd (K : PySem.W.Frag) (M H : Hp) (a : Addr) : Ob → Prop
  | .raw o => H a = some o
  | .such φ => ∃ o, H a = some o ∧ φ o
  | .L ds => ∃ vs, H a = some (.lst vs) ∧ DpAll K M vs ds
  | .D kds => ∃ kvs : List (Key × V), H a = some (.dK kvs) ∧ kvs.map Prod.fst = kds.map Prod.fst ∧ DpAll K M (kvs.map Prod.snd) (kds.map Prod.snd)
/-- what is known of the part that never changes -/
inductive Pf where
  | tup (t : Addr) (vs : List V)
  | lst (t : Addr) (vs : List V)
  | dp (vs : List V) (ds : List PyData)
  | sq (t : Addr) (vs : List V)
def Pf.ok (K : PySem.W.Frag) (M : Hp) : Pf → Prop
  | .tup t vs => M t = some (.tup vs)
  | .lst t vs => M t = some (.lst vs)
  | .dp vs ds => DpAll K M vs ds
  | .sq t vs => SqT K M t vs
structure Own (K : PySem.W.Frag) (H : Hp) (L : List (Addr × Ob)) (P : List Pf) : Prop where
  ex : ∃ M : Hp, (L.map Prod.fst).Nodup ∧ (∀ p ∈ L, Hd K M H p.1 p.2 ∧ M p.1 = none) ∧ (∀ b u, M b = some u → H b = some u) ∧ ∀ q ∈ P, q.ok K M
theorem Pf.same {K : PySem.W.Frag} {M M' : Hp} (s : Same M M') : ∀ q : Pf, q.ok K M → q.ok K M'
  | .tup t vs, h => s _ _ h
  | .lst t vs, h => s _ _ h
  | .dp vs ds, h => dpA_same s _ _ h
  | .sq t vs, h => sqt_same s h
theorem Hd.some {K : PySem.W.Frag} {M H : Hp} {a : Addr} : ∀ {o : Ob}, Hd K M H a o → ∃ u, H a = Option.some u
  | .raw _, h => ⟨_, h⟩
  | .such _, ⟨_, h, _⟩ => ⟨_, h⟩
  | .L _, ⟨_, h, _⟩ => ⟨_, h⟩
  | .D _, ⟨_, h, _⟩ => ⟨_, h⟩
theorem Hd.same {K : PySem.W.Frag} {M M' H H' : Hp} {a : Addr} (s : Same M M') (e : H' a = H a) : ∀ {o : Ob}, Hd K M H a o → Hd K M' H' a o
  | .raw _, h => e.trans h
  | .such _, ⟨_, h, q⟩ => ⟨_, e.trans h, q⟩
  | .L _, ⟨_, h, q⟩ => ⟨_, e.trans h, dpA_same s _ _ q⟩
  | .D _, ⟨_, h, k, q⟩ => ⟨_, e.trans h, k, dpA_same s _ _ q⟩
variable {K : PySem.W.Frag} {H H1 M : Hp} {L L' R B : List (Addr × Ob)} {P P' : List Pf} {p a t : Addr} {o : HO} {ob : Ob} {vs us : List V} {ds es : List PyData}
theorem Own.new (h : Own K H L P) (f : H p = none) (e : upd H p o = H1) : Own K H1 ((p, .raw o) :: L) P := by
  subst e
  obtain ⟨M, nd, hl, hs, hp⟩ := h.ex
  have np : ∀ q ∈ L, q.1 ≠ p := fun q hq z => by obtain ⟨u, hu⟩ := (hl q hq).1.some; rw [z, f] at hu; cases hu
  have mp : M p = none := by
    cases e : M p with
    | none => rfl
    | some u => rw [hs _ _ e] at f; cases f
  refine ⟨M, ?_, fun q hq => ?_, fun b u hb => ?_, hp⟩
  · rw [List.map_cons, List.nodup_cons]
    exact ⟨fun z => by obtain ⟨q, hq, e⟩ := List.mem_map.mp z; exact np q hq e, nd⟩
  · rcases List.mem_cons.mp hq with rfl | hq
    · exact ⟨upd_same, mp⟩
    · exact ⟨(hl q hq).1.same (L2.Same.refl _) (upd_ne (np q hq)), (hl q hq).2⟩
  · rw [upd_ne (fun z => by rw [z, mp] at hb; cases hb)]; exact hs _ _ hb
/-- a new thing that never changes -/
theorem Own.newM (h : Own K H L P) (f : H p = none) (e : upd H p o = H1) {q : Pf} (hq : ∀ M : Hp, M p = some o → q.ok K M) : Own K H1 L (q :: P) := by
  subst e
  obtain ⟨M, nd, hl, hs, hp⟩ := h.ex
  have np : ∀ q ∈ L, q.1 ≠ p := fun q hq z => by obtain ⟨u, hu⟩ := (hl q hq).1.some; rw [z, f] at hu; cases hu
  have mp : M p = none := by
    cases e : M p with
    | none => rfl
    | some u => rw [hs _ _ e] at f; cases f
  have sm : Same M (upd M p o) := same_upd mp
  refine ⟨upd M p o, nd, fun q hq => ⟨(hl q hq).1.same sm (upd_ne (np q hq)), by rw [upd_ne (np q hq)]; exact (hl q hq).2⟩, fun b u hb => ?_, fun r hr => ?_⟩
  · by_cases z : b = p
    · subst z; rw [upd_same] at hb ⊢; exact hb
    · rw [upd_ne z] at hb ⊢; exact hs _ _ hb
  · rcases List.mem_cons.mp hr with rfl | hr
    · exact hq _ upd_same
    · exact r.same sm (hp r hr)
theorem Own.newT (h : Own K H L P) (f : H p = none) (e : upd H p (.tup vs) = H1) : Own K H1 L (.tup p vs :: P) := h.newM f e fun _ z => z
theorem Own.newP (h : Own K H L P) (f : H p = none) (e : upd H p (.lst vs) = H1) : Own K H1 L (.lst p vs :: P) := h.newM f e fun _ z => z
inductive At : List (Addr × Ob) → Addr → Ob → List (Addr × Ob) → Prop
  | head {a : Addr} {o o' : Ob} {t : List (Addr × Ob)} : At ((a, o) :: t) a o' ((a, o') :: t)
  | tail {a : Addr} {o' : Ob} {p : Addr × Ob} {t t' : List (Addr × Ob)} : At t a o' t' → At (p :: t) a o' (p :: t')
  | app {a : Addr} {o' : Ob} {A t t' : List (Addr × Ob)} : At t a o' t' → At (A ++ t) a o' (A ++ t')
theorem At.parts {L L' : List (Addr × Ob)} {a : Addr} {o' : Ob} (h : At L a o' L') : ∃ x o y, L = x ++ (a, o) :: y ∧ L' = x ++ (a, o') :: y := by
  induction h with
  | head => exact ⟨[], _, _, rfl, rfl⟩
  | tail _ ih => obtain ⟨x, o, y, e1, e2⟩ := ih; exact ⟨_ :: x, o, y, by rw [e1]; rfl, by rw [e2]; rfl⟩
  | @app _ _ A _ _ _ ih => obtain ⟨x, o, y, e1, e2⟩ := ih; exact ⟨A ++ x, o, y, by rw [e1, List.append_assoc], by rw [e2, List.append_assoc]⟩
theorem Own.setU (h : Own K H L P) (m : At L a ob L') (e : upd H a o = H1) (hd : ∀ M : Hp, (∀ q ∈ P, q.ok K M) → (∀ o0, (a, o0) ∈ L → Hd K M H a o0) → Hd K M (upd H a o) a ob) : Own K H1 L' P := by
  subst e
  obtain ⟨M, nd, hl, hs, hp⟩ := h.ex
  obtain ⟨x, o0, y, rfl, rfl⟩ := m.parts
  have ma : M a = none := (hl (a, o0) (by simp)).2
  have nd' := nd
  rw [List.map_append, List.map_cons, List.nodup_append, List.nodup_cons] at nd'
  have na : ∀ q, (q ∈ x ∨ q ∈ y) → q.1 ≠ a := fun q hq z => by
    rcases hq with hq | hq
    · exact nd'.2.2 q.1 (List.mem_map_of_mem hq) a List.mem_cons_self z
    · exact nd'.2.1.1 (List.mem_map.mpr ⟨q, hq, z⟩)
  refine ⟨M, by rw [List.map_append, List.map_cons] at nd ⊢; exact nd, fun q hq => ?_, fun b u hb => ?_, hp⟩
  · have old : (q ∈ x ∨ q ∈ y) → Hd K M (upd H a o) q.1 q.2 ∧ M q.1 = none := fun z => by
      have := hl q (by rcases z with z | z <;> simp [z])
      exact ⟨this.1.same (L2.Same.refl _) (upd_ne (na q z)), this.2⟩
    rcases List.mem_append.mp hq with hq | hq
    · exact old (.inl hq)
    · rcases List.mem_cons.mp hq with rfl | hq
      · exact ⟨hd M hp fun o1 m1 => (hl _ m1).1, ma⟩
      · exact old (.inr hq)
  · rw [upd_ne (fun z => by rw [z, ma] at hb; cases hb)]; exact hs _ _ hb
theorem Own.setO (h : Own K H L P) (m : At L a ob L') (e : upd H a o = H1) (hd : ∀ M : Hp, (∀ q ∈ P, q.ok K M) → Hd K M (upd H a o) a ob) : Own K H1 L' P := h.setU m e fun M q _ => hd M q
theorem Own.set (h : Own K H L P) (m : At L a (.raw o) L') (e : upd H a o = H1) : Own K H1 L' P := h.setO m e fun _ _ => upd_same
/-- the same, by a name that a walker sees -/
def updX (H : Hp) (a : Addr) (o : HO) : Hp := upd H a o
theorem upd_mk (H : Hp) (a : Addr) (o : HO) : upd H a o = updX H a o := rfl
theorem upd_mkO (h : Own K H L P) (a : Addr) (o : HO) : upd H a o = updX H a o := rfl
theorem Own.cset {G : Prop} (h : Own K H L P) (e : updX H a o = H1) (m : At L a (.raw o) L') (k : Own K H1 L' P → G) : G := k (h.set m e)
theorem Own.cnewT {G : Prop} (h : Own K H L P) (e : updX H p (.tup vs) = H1) (f : H p = none) (k : Own K H1 L (.tup p vs :: P) → G) : G := k (h.newT f e)
theorem Own.cnew {G : Prop} (h : Own K H L P) (e : updX H p o = H1) (f : H p = none) (k : Own K H1 ((p, .raw o) :: L) P → G) : G := k (h.new f e)
theorem Own.make {C dx x : Addr} (h : Own K H L P) (f1 : H x = none) (f2 : H dx = none) (f3 : dx ≠ x) (e : upd (updX H dx (.own x)) x (.ins C dx []) = H1) : Own K H1 ((x, .raw (.ins C dx [])) :: L) P := by
  have h1 := h.new f2 (o := .own x) rfl
  have h2 := h1.new (p := x) (o := .ins C dx []) (by rw [upd_ne (Ne.symm f3)]; exact f1) e
  obtain ⟨M, nd, hl, hs, hp⟩ := h2.ex
  refine ⟨M, ?_, fun p hp' => hl p ?_, hs, hp⟩
  · simp only [List.map_cons, List.nodup_cons, List.mem_cons, not_or] at nd ⊢
    exact ⟨nd.1.2, nd.2.2⟩
  · rcases List.mem_cons.mp hp' with rfl | z
    · exact List.mem_cons_self
    · exact List.mem_cons_of_mem _ (List.mem_cons_of_mem _ z)
theorem Own.cmake {G : Prop} {C dx x : Addr} (h : Own K H L P) (f1 : H x = none) (f2 : H dx = none) (f3 : dx ≠ x) (e : upd (updX H dx (.own x)) x (.ins C dx []) = H1) (k : Own K H1 ((x, .raw (.ins C dx [])) :: L) P → G) : G := k (h.make f1 f2 f3 e)
theorem Own.raw (h : Own K H L P) (m : (a, Ob.raw o) ∈ L) : H a = some o := by
  obtain ⟨M, nd, hl, hs, hp⟩ := h.ex
  exact (hl _ m).1
theorem Own.ptup (h : Own K H L P) (m : Pf.tup t vs ∈ P) : H t = some (.tup vs) := by
  obtain ⟨M, nd, hl, hs, hp⟩ := h.ex
  exact hs _ _ (hp _ m)
theorem Own.plst (h : Own K H L P) (m : Pf.lst t vs ∈ P) : H t = some (.lst vs) := by
  obtain ⟨M, nd, hl, hs, hp⟩ := h.ex
  exact hs _ _ (hp _ m)
theorem Own.pdp (h : Own K H L P) (m : Pf.dp vs ds ∈ P) : DpAll K H vs ds := by
  obtain ⟨M, nd, hl, hs, hp⟩ := h.ex
  exact dpA_same hs _ _ (hp _ m)
theorem Own.psq (h : Own K H L P) (m : Pf.sq t vs ∈ P) : SqT K H t vs := by
  obtain ⟨M, nd, hl, hs, hp⟩ := h.ex
  exact sqt_same hs (hp _ m)
theorem Own.lst (h : Own K H L P) (m : (a, Ob.L ds) ∈ L) : ∃ vs, H a = some (.lst vs) ∧ DpAll K H vs ds := by
  obtain ⟨M, nd, hl, hs, hp⟩ := h.ex
  obtain ⟨vs, e, q⟩ := (hl _ m).1
  exact ⟨vs, e, dpA_same hs _ _ q⟩
/-- entries by other words of the same heap -/
theorem Own.re (h : Own K H L P) (m : At L a ob L') {P' : List Pf} (f : ∀ M : Hp, (∀ q ∈ P, q.ok K M) → (∀ b u, M b = some u → H b = some u) → (∀ o0, (a, o0) ∈ L → Hd K M H a o0) → Hd K M H a ob ∧ ∀ q ∈ P', q.ok K M) : Own K H L' P' := by
  obtain ⟨M, nd, hl, hs, hp⟩ := h.ex
  obtain ⟨x, o0, y, rfl, rfl⟩ := m.parts
  obtain ⟨g1, g2⟩ := f M hp hs fun o0 m => (hl _ m).1
  refine ⟨M, by rw [List.map_append, List.map_cons] at nd ⊢; exact nd, fun q hq => ?_, hs, g2⟩
  rcases List.mem_append.mp hq with z | z
  · exact hl q (List.mem_append.mpr (.inl z))
  · rcases List.mem_cons.mp z with rfl | z
    · exact ⟨g1, (hl (a, o0) (by simp)).2⟩
    · exact hl q (List.mem_append.mpr (.inr (List.mem_cons_of_mem _ z)))
theorem Own.openL (h : Own K H L P) (m : (a, Ob.L ds) ∈ L) : ∃ vs, ∀ L', At L a (.raw (.lst vs)) L' → Own K H L' (.dp vs ds :: P) := by
  obtain ⟨M, nd, hl, hs, hp⟩ := h.ex
  obtain ⟨vs, e, q⟩ := (hl _ m).1
  refine ⟨vs, fun L' m' => ?_⟩
  obtain ⟨x, o0, y, rfl, rfl⟩ := m'.parts
  refine ⟨M, by rw [List.map_append, List.map_cons] at nd ⊢; exact nd, fun z hz => ?_, hs, fun z hz => ?_⟩
  · rcases List.mem_append.mp hz with w | w
    · exact hl z (List.mem_append.mpr (.inl w))
    · rcases List.mem_cons.mp w with rfl | w
      · exact ⟨e, (hl (a, o0) (by simp)).2⟩
      · exact hl z (List.mem_append.mpr (.inr (List.mem_cons_of_mem _ w)))
  · rcases List.mem_cons.mp hz with rfl | hz
    · exact q
    · exact hp z hz
theorem Own.openD {kds : List (Key × PyData)} (h : Own K H L P) (m : (a, Ob.D kds) ∈ L) : ∃ kvs : List (Key × V), kvs.map Prod.fst = kds.map Prod.fst ∧ ∀ L', At L a (.raw (.dK kvs)) L' → Own K H L' (.dp (kvs.map Prod.snd) (kds.map Prod.snd) :: P) := by
  obtain ⟨M, nd, hl, hs, hp⟩ := h.ex
  obtain ⟨vs, e, k, q⟩ := (hl _ m).1
  refine ⟨vs, k, fun L' m' => ?_⟩
  obtain ⟨x, o0, y, rfl, rfl⟩ := m'.parts
  refine ⟨M, by rw [List.map_append, List.map_cons] at nd ⊢; exact nd, fun z hz => ?_, hs, fun z hz => ?_⟩
  · rcases List.mem_append.mp hz with w | w
    · exact hl z (List.mem_append.mpr (.inl w))
    · rcases List.mem_cons.mp w with rfl | w
      · exact ⟨e, (hl (a, o0) (by simp)).2⟩
      · exact hl z (List.mem_append.mpr (.inr (List.mem_cons_of_mem _ w)))
  · rcases List.mem_cons.mp hz with rfl | hz
    · exact q
    · exact hp z hz
theorem Own.openS {φ : HO → Prop} (h : Own K H L P) (m : (a, Ob.such φ) ∈ L) : ∃ o, φ o ∧ ∀ L', At L a (.raw o) L' → Own K H L' P := by
  obtain ⟨M, nd, hl, hs, hp⟩ := h.ex
  obtain ⟨o, e, q⟩ := (hl _ m).1
  refine ⟨o, q, fun L' m' => ?_⟩
  obtain ⟨x, o0, y, rfl, rfl⟩ := m'.parts
  refine ⟨M, by rw [List.map_append, List.map_cons] at nd ⊢; exact nd, fun z hz => ?_, hs, hp⟩
  rcases List.mem_append.mp hz with w | w
  · exact hl z (List.mem_append.mpr (.inl w))
  · rcases List.mem_cons.mp w with rfl | w
    · exact ⟨e, (hl (a, o0) (by simp)).2⟩
    · exact hl z (List.mem_append.mpr (.inr (List.mem_cons_of_mem _ w)))
theorem Own.derive (h : Own K H L P) {q : Pf} (f : ∀ M : Hp, (∀ q ∈ P, q.ok K M) → q.ok K M) : Own K H L (q :: P) := by
  obtain ⟨M, nd, hl, hs, hp⟩ := h.ex
  exact ⟨M, nd, hl, hs, fun r hr => (List.mem_cons.mp hr).elim (fun e => e ▸ f M hp) (hp r)⟩
/-! ### what follows of what is known -/
def Dv (K : PySem.W.Frag) (P : List Pf) (vs : List V) (ds : List PyData) : Prop := ∀ M : Hp, (∀ q ∈ P, q.ok K M) → DpAll K M vs ds
def Dv1 (K : PySem.W.Frag) (P : List Pf) (v : V) (d : PyData) : Prop := ∀ M : Hp, (∀ q ∈ P, q.ok K M) → Dp K M v d
theorem Dv.nil : Dv K P [] [] := fun _ _ => .nil
theorem Dv.cons {v : V} {d : PyData} (x : Dv1 K P v d) (y : Dv K P vs ds) : Dv K P (v :: vs) (d :: ds) := fun M h => .cons (x M h) (y M h)
theorem Dv.of (m : Pf.dp vs ds ∈ P) : Dv K P vs ds := fun M h => h _ m
theorem Dv.app (x : Dv K P vs ds) (y : Dv K P us es) : Dv K P (vs ++ us) (ds ++ es) := fun M h => L2.DpAll.app' (x M h) (y M h)
theorem Dv1.non : Dv1 K P .non .none := fun _ _ => .non
theorem Dv1.bl (b : Bool) : Dv1 K P (.bl b) (.bool b) := fun _ _ => .bl b
theorem Dv1.int (i : Int) : Dv1 K P (.int i) (.int i) := fun _ _ => .int i
theorem Dv1.str (x : Str) : Dv1 K P (.str x) (.str x) := fun _ _ => .str x
theorem Dv1.tup (m : Pf.tup t vs ∈ P) (x : Dv K P vs ds) : Dv1 K P (.ref t) (.tuple ds) := fun M h => .tup (SqT.of (h _ m)) (x M h)
theorem Dv1.lst (m : Pf.lst t vs ∈ P) (x : Dv K P vs ds) : Dv1 K P (.ref t) (.list ds) := fun M h => .lst (SqL.of (h _ m)) (x M h)
theorem Dv1.of {v : V} {d : PyData} (m : Pf.dp [v] [d] ∈ P) : Dv1 K P v d := fun M h => by cases h _ m with | cons x _ => exact x
theorem DpAll_split {M : Hp} : ∀ {a b : List V} {d e : List PyData}, L2.DpAll K M (a ++ b) (d ++ e) → a.length = d.length → L2.DpAll K M a d ∧ L2.DpAll K M b e
  | [], _, [], _, h, _ => ⟨.nil, h⟩
  | [], _, _ :: _, _, _, l => by simp at l
  | _ :: _, _, [], _, _, l => by simp at l
  | x :: a, b, y :: d, e, h, l => by
    cases h with
    | cons p q =>
      obtain ⟨r1, r2⟩ := DpAll_split (a := a) (b := b) (d := d) (e := e) q (by simpa using l)
      exact ⟨.cons p r1, r2⟩
theorem Dv.fst {us : List V} (x : Dv K P (vs ++ us) (ds ++ es)) (l : vs.length = ds.length) : Dv K P vs ds := fun M h => (DpAll_split (x M h) l).1
theorem Dv.snd {us : List V} (x : Dv K P (vs ++ us) (ds ++ es)) (l : vs.length = ds.length) : Dv K P us es := fun M h => (DpAll_split (x M h) l).2
theorem Dv.hd {v : V} {d : PyData} (x : Dv K P (v :: vs) (d :: ds)) : Dv1 K P v d := fun M h => by cases x M h with | cons y _ => exact y
theorem Dv.tl {v : V} {d : PyData} (x : Dv K P (v :: vs) (d :: ds)) : Dv K P vs ds := fun M h => by cases x M h with | cons _ y => exact y
theorem Own.pd1 {v : V} {d : PyData} (h : Own K H L P) (m : Pf.dp [v] [d] ∈ P) : Dp K H v d := by
  cases h.pdp m with
  | cons y _ => exact y
theorem Own.dpL (h : Own K H L P) (m : (a, Ob.L ds) ∈ L) : Dp K H (.ref a) (.list ds) := by
  obtain ⟨vs, e, q⟩ := h.lst m
  exact .lst (SqL.of e) q
theorem Dv.take (n : Nat) (x : Dv K P vs ds) : Dv K P (vs.take n) (ds.take n) := fun M h => (x M h).take n
theorem Dv.drop (n : Nat) (x : Dv K P vs ds) : Dv K P (vs.drop n) (ds.drop n) := fun M h => (x M h).drop n
theorem Dv.set {v : V} {d : PyData} (n : Nat) (y : Dv1 K P v d) (x : Dv K P vs ds) : Dv K P (vs.set n v) (ds.set n d) := fun M h => (x M h).set (y M h) n
theorem Dv.erase (n : Nat) (x : Dv K P vs ds) : Dv K P (vs.eraseIdx n) (ds.eraseIdx n) := fun M h => (x M h).erase n
theorem Dv.dropLast (x : Dv K P vs ds) : Dv K P vs.dropLast ds.dropLast := fun M h => (x M h).dropLast
theorem Dv.rev (x : Dv K P vs ds) : Dv K P vs.reverse ds.reverse := fun M h => (x M h).rev
theorem Dv.get {i : Nat} {v : V} {d : PyData} (x : Dv K P vs ds) (e1 : vs[i]? = some v) (e2 : ds[i]? = some d) : Dv1 K P v d := fun M h => (x M h).get' e1 e2
theorem Dv.ints (ns : List Int) : Dv K P (ns.map V.int) (ns.map PyData.int) := fun _ _ => dp_ints ns
theorem Own.dv (h : Own K H L P) (x : Dv K P vs ds) : Own K H L (.dp vs ds :: P) := h.derive x
theorem Own.dv1 {v : V} {d : PyData} (h : Own K H L P) (x : Dv1 K P v d) : Own K H L (.dp [v] [d] :: P) := h.derive fun M z => .cons (x M z) .nil
theorem Own.all (h : Own K H L P) (x : Dv K P vs ds) : DpAll K H vs ds := (h.dv x).pdp List.mem_cons_self
theorem Own.one {v : V} {d : PyData} (h : Own K H L P) (x : Dv1 K P v d) : Dp K H v d := by
  cases (h.dv1 x).pdp List.mem_cons_self with
  | cons y _ => exact y
theorem Own.setL (h : Own K H L P) (m : At L a (.L ds) L') (e : upd H a (.lst vs) = H1) (x : Dv K P vs ds) : Own K H1 L' P := h.setO m e fun M q => ⟨vs, upd_same, x M q⟩
theorem Own.setS {φ : HO → Prop} (h : Own K H L P) (m : At L a (.such φ) L') (e : upd H a o = H1) (x : φ o) : Own K H1 L' P := h.setO m e fun _ _ => ⟨o, upd_same, x⟩
theorem Own.setD {kvs : List (Key × V)} {kds : List (Key × PyData)} (h : Own K H L P) (m : At L a (.D kds) L') (e : upd H a (.dK kvs) = H1) (k : kvs.map Prod.fst = kds.map Prod.fst) (x : Dv K P (kvs.map Prod.snd) (kds.map Prod.snd)) : Own K H1 L' P := h.setO m e fun M q => ⟨kvs, upd_same, k, x M q⟩
theorem Own.closeL (h : Own K H L P) (m : (a, Ob.raw (.lst vs)) ∈ L) (x : Dv K P vs ds) (m' : At L a (.L ds) L') : Own K H L' P := h.re m' fun M q hs hd => ⟨⟨vs, hd _ m, x M q⟩, q⟩
theorem Own.closeS {φ : HO → Prop} (h : Own K H L P) (m : (a, Ob.raw o) ∈ L) (x : φ o) (m' : At L a (.such φ) L') : Own K H L' P := h.re m' fun M q hs hd => ⟨⟨o, hd _ m, x⟩, q⟩
theorem Own.closeD {kvs : List (Key × V)} {kds : List (Key × PyData)} (h : Own K H L P) (m : (a, Ob.raw (.dK kvs)) ∈ L) (k : kvs.map Prod.fst = kds.map Prod.fst) (x : Dv K P (kvs.map Prod.snd) (kds.map Prod.snd)) (m' : At L a (.D kds) L') : Own K H L' P := h.re m' fun M q hs hd => ⟨⟨kvs, hd _ m, k, x M q⟩, q⟩
/-! ### blocks out of a list, and less -/
def Pk (L B R : List (Addr × Ob)) : Prop := L.Perm (B ++ R)
theorem Pk.one {p : Addr × Ob} : Pk (p :: R) [p] R := List.Perm.refl _
theorem Pk.here : Pk (B ++ R) B R := List.Perm.refl _
theorem Pk.all : Pk B B [] := by unfold Pk; rw [List.append_nil]
theorem Pk.skip1 {p : Addr × Ob} (h : Pk L B R) : Pk (p :: L) B (p :: R) := (h.cons p).trans List.perm_middle.symm
theorem Pk.skipB {A : List (Addr × Ob)} (h : Pk L B R) : Pk (A ++ L) B (A ++ R) := by
  unfold Pk at h ⊢
  refine (List.Perm.append_left A h).trans ?_
  rw [← List.append_assoc, ← List.append_assoc]
  exact List.Perm.append_right R List.perm_append_comm
/-- what stands by one word stands by another -/
def Ft (K : PySem.W.Frag) (P : List Pf) (o' o : Ob) : Prop := ∀ (M H : Hp) (a : Addr), (∀ q ∈ P, q.ok K M) → Hd K M H a o' → Hd K M H a o
theorem Ft.refl {o : Ob} : Ft K P o o := fun _ _ _ _ h => h
theorem Ft.eq {o' o : Ob} (e : o' = o) : Ft K P o' o := e ▸ Ft.refl
theorem Ft.lst {us vs : List V} (e : us = vs) : Ft K P (.raw (.lst us)) (.raw (.lst vs)) := e ▸ Ft.refl
theorem Ft.ins {C dx : Addr} {us vs : List (Str × V)} (e : us = vs) : Ft K P (.raw (.ins C dx us)) (.raw (.ins C dx vs)) := e ▸ Ft.refl
theorem Ft.dK {us vs : List (Key × V)} (e : us = vs) : Ft K P (.raw (.dK us)) (.raw (.dK vs)) := e ▸ Ft.refl
theorem Ft.toL (x : Dv K P vs ds) : Ft K P (.raw (.lst vs)) (.L ds) := fun M _ _ q h => ⟨vs, h, x M q⟩
theorem Ft.toS {φ : HO → Prop} {o : HO} (x : φ o) : Ft K P (.raw o) (.such φ) := fun _ _ _ _ h => ⟨o, h, x⟩
theorem Ft.toD {kvs : List (Key × V)} {kds : List (Key × PyData)} (k : kvs.map Prod.fst = kds.map Prod.fst) (x : Dv K P (kvs.map Prod.snd) (kds.map Prod.snd)) : Ft K P (.raw (.dK kvs)) (.D kds) := fun M _ _ q h => ⟨kvs, h, k, x M q⟩
theorem Ft.Le {ds es : List PyData} (e : ds = es) : Ft K P (.L ds) (.L es) := e ▸ Ft.refl
theorem Ft.De {ds es : List (Key × PyData)} (e : ds = es) : Ft K P (.D ds) (.D es) := e ▸ Ft.refl
theorem Ft.S {φ ψ : HO → Prop} (e : ∀ o, φ o → ψ o) : Ft K P (.such φ) (.such ψ) := fun _ _ _ _ ⟨o, h, x⟩ => ⟨o, h, e o x⟩
inductive Al (K : PySem.W.Frag) (P : List Pf) : List (Addr × Ob) → List (Addr × Ob) → Prop
  | nil : Al K P [] []
  | cons {a : Addr} {o' o : Ob} {L' L : List (Addr × Ob)} : Ft K P o' o → Al K P L' L → Al K P ((a, o') :: L') ((a, o) :: L)
theorem Al.refl : ∀ L : List (Addr × Ob), Al K P L L
  | [] => .nil
  | (_, _) :: t => .cons Ft.refl (Al.refl t)
theorem Al.app {A A' B B' : List (Addr × Ob)} (x : Al K P A A') (y : Al K P B B') : Al K P (A ++ B) (A' ++ B') := by
  induction x with
  | nil => exact y
  | cons f _ ih => exact .cons f ih
theorem Al.fst {A A' : List (Addr × Ob)} (x : Al K P A A') : A.map Prod.fst = A'.map Prod.fst := by
  induction x with
  | nil => rfl
  | cons f _ ih => rw [List.map_cons, List.map_cons, ih]
theorem Al.hd {A A' : List (Addr × Ob)} (x : Al K P A A') {M H : Hp} (q : ∀ q ∈ P, q.ok K M) (h : ∀ p ∈ A, Hd K M H p.1 p.2 ∧ M p.1 = none) : ∀ p ∈ A', Hd K M H p.1 p.2 ∧ M p.1 = none := by
  induction x with
  | nil => exact fun _ z => nomatch z
  | cons f _ ih =>
    intro p hp
    rcases List.mem_cons.mp hp with rfl | hp
    · have := h _ List.mem_cons_self
      exact ⟨f _ _ _ q this.1, this.2⟩
    · exact ih (fun p hp => h p (List.mem_cons_of_mem _ hp)) p hp
/-- L' out of L -/
def Sb (K : PySem.W.Frag) (P : List Pf) (L' L : List (Addr × Ob)) : Prop := ∃ L1 R, L.Perm (L1 ++ R) ∧ Al K P L1 L'
theorem Sb.refl (L : List (Addr × Ob)) : Sb K P L L := ⟨L, [], by rw [List.append_nil], Al.refl L⟩
theorem Sb.nil : Sb K P [] L := ⟨[], L, List.Perm.refl _, .nil⟩
theorem Sb.app (x : Pk L B R) (y : Sb K P L' R) : Sb K P (B ++ L') L := by
  obtain ⟨L1, z, e, al⟩ := y
  exact ⟨B ++ L1, z, x.trans (by rw [List.append_assoc]; exact List.Perm.append_left B e), Al.app (Al.refl B) al⟩
theorem Sb.cons {o' : Ob} (x : Pk L [(a, o')] R) (f : Ft K P o' ob) (y : Sb K P L' R) : Sb K P ((a, ob) :: L') L := by
  obtain ⟨L1, z, e, al⟩ := y
  exact ⟨(a, o') :: L1, z, x.trans (List.Perm.append_left [(a, o')] e), .cons f al⟩
theorem Sb.skip {p : Addr × Ob} (y : Sb K P L' L) : Sb K P L' (p :: L) := by
  obtain ⟨L1, z, e, al⟩ := y
  exact ⟨L1, p :: z, (e.cons p).trans List.perm_middle.symm, al⟩
theorem Sb.skipB {A : List (Addr × Ob)} (y : Sb K P L' L) : Sb K P L' (A ++ L) := by
  obtain ⟨L1, z, e, al⟩ := y
  refine ⟨L1, A ++ z, (List.Perm.append_left A e).trans ?_, al⟩
  rw [← List.append_assoc, ← List.append_assoc]
  exact List.Perm.append_right z List.perm_append_comm
def Ps (P' P : List Pf) : Prop := ∀ r ∈ P', r ∈ P
theorem Ps.refl : Ps P P := fun _ h => h
theorem Ps.nil : Ps [] P := fun _ h => nomatch h
theorem Ps.skip {q : Pf} (h : Ps P' P) : Ps P' (q :: P) := fun r hr => List.mem_cons_of_mem _ (h r hr)
theorem Ps.cons {q : Pf} (m : q ∈ P) (h : Ps P' P) : Ps (q :: P') P := fun r hr => (List.mem_cons.mp hr).elim (fun e => e ▸ m) (h r)
theorem Own.sub (h : Own K H L P) (s : Sb K P L' L) (q : Ps P' P) : Own K H L' P' := by
  obtain ⟨M, nd, hl, hs, hp⟩ := h.ex
  obtain ⟨L1, z, e, al⟩ := s
  have nd' := (e.map Prod.fst).nodup_iff.mp nd
  rw [List.map_append, List.nodup_append, al.fst] at nd'
  exact ⟨M, nd'.1, al.hd hp fun p hp' => hl p (e.mem_iff.mpr (List.mem_append.mpr (.inl hp'))), hs, fun r hr => hp r (q r hr)⟩
theorem Own.pick (h : Own K H L P) (m : Pk L B R) : Own K H (B ++ R) P := h.sub ⟨B ++ R, [], by rw [List.append_nil]; exact m, Al.refl _⟩ Ps.refl
/-- a flat value -/
def fv : PyData → V
  | .int i => .int i
  | .bool b => .bl b
  | .str x => .str x
  | _ => .non
def flatD : PyData → Bool
  | .int _ => true
  | .bool _ => true
  | .str _ => true
  | .none => true
  | _ => false
theorem dp_flat {M : Hp} : ∀ {d : PyData} {v : V}, Dp K M v d → flatD d = true → v = fv d
  | _, _, .non, _ => rfl
  | _, _, .bl _, _ => rfl
  | _, _, .int _, _ => rfl
  | _, _, .str _, _ => rfl
  | _, _, .lst _ _, h => nomatch h
  | _, _, .tup _ _, h => nomatch h
theorem dp_flats {M : Hp} : ∀ {vs : List V} {ds : List PyData}, DpAll K M vs ds → ds.all flatD = true → vs = ds.map fv
  | _, _, .nil, _ => rfl
  | _, _, .cons x y, h => by
    rw [List.all_cons, Bool.and_eq_true] at h
    rw [List.map_cons, ← dp_flat x h.1, ← dp_flats y h.2]
/-- a tuple of flat values opened -/
theorem Own.opn {v : V} {ds : List PyData} (h : Own K H L P) (x : Dv1 K P v (.tuple ds)) (hf : ds.all flatD = true := by rfl) : ∃ t, v = .ref t ∧ Own K H L (.sq t (ds.map fv) :: P) := by
  obtain ⟨M, nd, hl, hs, hp⟩ := h.ex
  cases x M hp with
  | @tup t xs _ hq ha =>
    refine ⟨t, rfl, M, nd, hl, hs, fun q hq' => ?_⟩
    rcases List.mem_cons.mp hq' with rfl | hq'
    · rw [← dp_flats ha hf]; exact hq
    · exact hp q hq'
/-- a list that is given up: it never changes any more -/
theorem Own.give (h : Own K H L P) (m : Pk L [(a, Ob.raw (.lst vs))] R) : Own K H R (.lst a vs :: P) := by
  have h2 : Own K H ((a, Ob.raw (.lst vs)) :: R) P := h.pick m
  obtain ⟨M, nd, hl, hs, hp⟩ := h2.ex
  rw [List.map_cons, List.nodup_cons] at nd
  have ha : H a = some (.lst vs) := (hl (a, Ob.raw (.lst vs)) List.mem_cons_self).1
  have ma : M a = none := (hl (a, Ob.raw (.lst vs)) List.mem_cons_self).2
  have sm : Same M (upd M a (.lst vs)) := same_upd ma
  refine ⟨upd M a (.lst vs), nd.2, fun q hq => ?_, fun b u hb => ?_, fun r hr => ?_⟩
  · have n : q.1 ≠ a := fun z => nd.1 (List.mem_map.mpr ⟨q, hq, z⟩)
    have := hl q (List.mem_cons_of_mem _ hq)
    exact ⟨this.1.same sm rfl, by rw [upd_ne n]; exact this.2⟩
  · by_cases z : b = a
    · subst z; rw [upd_same] at hb; rw [ha]; exact hb
    · rw [upd_ne z] at hb; exact hs _ _ hb
  · rcases List.mem_cons.mp hr with rfl | hr
    · exact (upd_same : upd M a (.lst vs) a = _)
    · exact r.same sm (hp r hr)
theorem Own.none_of (h : Own K H L P) (f : H p = none) : ∀ q ∈ L, q.1 ≠ p := fun q hq z => by
  obtain ⟨M, nd, hl, hs, hp⟩ := h.ex
  obtain ⟨u, hu⟩ := (hl q hq).1.some; rw [z, f] at hu; cases hu
/-- owned of nothing: a start -/
theorem Own.start {K : PySem.W.Frag} {H : Hp} : Own K H [] [] := ⟨fun _ => none, by simp, fun _ h => (nomatch h), fun _ _ h => (nomatch h), fun _ h => (nomatch h)⟩
theorem pg_trip {X : Cx} {i j l : Nat} {x y z : Str} {p1 p2 p3 pos : Pos} {kk : Nat} (hc : X.calm = true) (hN : X.N.Nodup) (hi : X.N[i]? = some x) (hj : X.N[j]? = some y) (hl : X.N[l]? = some z) (hx : Loc X.env.scope x) (hy : Loc X.env.scope y) (hz : Loc X.env.scope z)
    (hf : X.fn x = true ∨ X.env.scope.names.lookup x = some .local := by first | exact .inl rfl | exact .inr rfl | assumption) (hf2 : X.fn y = true ∨ X.env.scope.names.lookup y = some .local := by first | exact .inl rfl | exact .inr rfl | assumption) (hf3 : X.fn z = true ∨ X.env.scope.names.lookup z = some .local := by first | exact .inl rfl | exact .inr rfl | assumption)
    (hn : (assignEach [Expr.Name x p1, .Name y p2, .Name z p3] X.env).length = 3 := by rfl) (hst : (assignEach [Expr.Name x p1, .Name y p2, .Name z p3] X.env).findIdx? (·.1) = none := by rfl)
    (hs : (assignEach [Expr.Name x p1, .Name y p2, .Name z p3] X.env).map (·.2) = assign (.Name x p1) X.env :: (assignEach [Expr.Name y p2, .Name z p3] X.env).map (·.2) := by rfl)
    (hs2 : (assignEach [Expr.Name y p2, .Name z p3] X.env).map (·.2) = assign (.Name y p2) X.env :: (assignEach [Expr.Name z p3] X.env).map (·.2) := by rfl)
    (hs3 : (assignEach [Expr.Name z p3] X.env).map (·.2) = assign (.Name z p3) X.env :: (assignEach [] X.env).map (·.2) := by rfl) :
    PG X (.Tuple [.Name x p1, .Name y p2, .Name z p3] kk pos) (gTup X.K 3 (gCons (gName i) (gCons (gName j) (gCons (gName l) gNil)))) :=
  pg_tup hc (pgs_cons (pg_name hN hi hx hf) (pgs_cons (pg_name hN hj hy hf2) (pgs_cons (pg_name hN hl hz hf3) pgs_nil hs3) hs2) hs) hn hst
theorem kit_self' {K : PySem.W.Frag} {C : Addr} : PySem.W.kitOne K (.ref C) (.ref C) = some true := if_pos (beq_self_eq_true _)
/-! ### comprehensions -/
section
variable {g : TG} {te : TE} {tt : TT} {wv : List Nat} {σ : L2.St} {D : Addr} {Qd : Hp → Prop} {xs : List V}
theorem own_app {i : Nat} {y : V} {d : PyData} {vs : List V} (q' : Own K H ((D, .L ds) :: L) P) (ev : H D = some (.lst vs)) (dv : Dv1 K P y d) : Own K (upd H D (.lst (vs ++ [y]))) ((D, .L (ds ++ [d])) :: L) P := by
  refine q'.setU .head rfl fun M hp ho => ⟨vs ++ [y], upd_same, ?_⟩
  obtain ⟨vs', ev', dvs⟩ := ho _ List.mem_cons_self
  rw [ev] at ev'
  cases ev'
  exact L2.DpAll.app' dvs (.cons (dv M hp) .nil)
/-- a new list of data, over any walk -/
theorem lc_ownW {J : It} {n : Nat} {G : Hp → Prop} {Y : Nat → Hp → V → Hp → Prop} (w : Walk J n G Y) (ds : List PyData) (h : Own K H1 L P) (hD : H1 D = none) (hx : n = ds.length) (hz : n ≤ 10000)
    (ha : ∀ (H : Hp) (L' : List (Addr × Ob)) (P' : List Pf), (∀ p ∈ L, p ∈ L') → Ps P P' → Own K H L' P' → G H)
    (hs : ∀ (i : Nat) (x : V) (d : PyData) (H H' : Hp) (P' : List Pf) (Q : VK), i < n → Y i H x H' → ds[i]? = some d → Ps P P' → Own K H ((D, .L (ds.take i)) :: L) P' →
      (∀ (y : V) (H'' : Hp) (P'' : List Pf), Ps P' P'' → Own K H'' ((D, .L (ds.take i)) :: L) P'' → Dv1 K P'' y d → Q y H'') → g x (wipe σ wv) H' fun σ2 H2 => wipe σ2 wv = wipe σ wv ∧ te σ2 H2 Q)
    (hd : ∀ (H' : Hp) (P' : List Pf), Ps P P' → Own K H' ((D, .L ds) :: L) P' → Qd H') :
    ∃ W : Nat → Nat → Hp → Prop, (∃ m, W 0 m (upd H1 D (.lst []))) ∧ ∀ i m H, W i m H →
      (J.stop i H ∧ Qd H) ∨ (J.go i H ∧ ∃ Nx : Hp → Prop, (∀ H', Nx H' → ∃ m', m' < m ∧ W (i + 1) m' H') ∧ ∀ x H', J.yld i H x H' → g x (wipe σ wv) H' fun σ2 H2 => wipe σ2 wv = wipe σ wv ∧ tYes σ2 H2 fun b H3 =>
        if b = true then te σ2 H3 fun y H4 => ∃ acc, H4 D = some (.lst acc) ∧ acc.length < sizeLine ∧ Nx (upd H4 D (.lst (acc ++ [y]))) else Nx H3) := by
  refine lc_it w (fun i H => ∃ P', Ps P P' ∧ Own K H ((D, .L (ds.take i)) :: L) P') ⟨P, Ps.refl, ?_⟩ (fun i H _ ⟨P', s, q⟩ => ha H _ P' (fun p m => List.mem_cons_of_mem _ m) s q) (fun i x H H' hi ⟨P', s, q⟩ y => ?_) (fun H ⟨P', s, q⟩ => hd H P' s (by rw [List.take_of_length_le (by omega)] at q; exact q))
  · have h2 := h.new hD (o := .lst []) rfl
    exact h2.closeL (vs := []) List.mem_cons_self (by rw [List.take_zero]; exact Dv.nil) .head
  · have hi2 : i < ds.length := by omega
    refine hs i x ds[i] H H' P' _ hi y (List.getElem?_eq_getElem hi2) s q (fun y H'' P'' s' q' dv => ?_)
    obtain ⟨vs, ev, dvs⟩ := q'.lst List.mem_cons_self
    have len := dvs.len
    rw [List.length_take] at len
    refine ⟨vs, ev, size_lt (by omega), P'', fun r m => s' r (s r m), ?_⟩
    rw [List.take_add_one, List.getElem?_eq_getElem hi2]
    exact own_app (i := i) q' ev dv
/-- the same of flat values, as they are -/
theorem lc_rawW {J : It} {n : Nat} {G : Hp → Prop} {Y : Nat → Hp → V → Hp → Prop} (w : Walk J n G Y) (ys : List V) (h : Own K H1 L P) (hD : H1 D = none) (hx : n = ys.length) (hz : n ≤ 10000)
    (ha : ∀ (H : Hp) (L' : List (Addr × Ob)) (P' : List Pf), (∀ p ∈ L, p ∈ L') → Ps P P' → Own K H L' P' → G H)
    (hs : ∀ (i : Nat) (x y : V) (H H' : Hp) (P' : List Pf) (Q : VK), i < n → Y i H x H' → ys[i]? = some y → Ps P P' → Own K H ((D, .raw (.lst (ys.take i))) :: L) P' →
      (∀ (H'' : Hp) (P'' : List Pf), Ps P' P'' → Own K H'' ((D, .raw (.lst (ys.take i))) :: L) P'' → Q y H'') → g x (wipe σ wv) H' fun σ2 H2 => wipe σ2 wv = wipe σ wv ∧ te σ2 H2 Q)
    (hd : ∀ (H' : Hp) (P' : List Pf), Ps P P' → Own K H' ((D, .raw (.lst ys)) :: L) P' → Qd H') :
    ∃ W : Nat → Nat → Hp → Prop, (∃ m, W 0 m (upd H1 D (.lst []))) ∧ ∀ i m H, W i m H →
      (J.stop i H ∧ Qd H) ∨ (J.go i H ∧ ∃ Nx : Hp → Prop, (∀ H', Nx H' → ∃ m', m' < m ∧ W (i + 1) m' H') ∧ ∀ x H', J.yld i H x H' → g x (wipe σ wv) H' fun σ2 H2 => wipe σ2 wv = wipe σ wv ∧ tYes σ2 H2 fun b H3 =>
        if b = true then te σ2 H3 fun y H4 => ∃ acc, H4 D = some (.lst acc) ∧ acc.length < sizeLine ∧ Nx (upd H4 D (.lst (acc ++ [y]))) else Nx H3) := by
  refine lc_it w (fun i H => ∃ P', Ps P P' ∧ Own K H ((D, .raw (.lst (ys.take i))) :: L) P') ⟨P, Ps.refl, ?_⟩ (fun i H _ ⟨P', s, q⟩ => ha H _ P' (fun p m => List.mem_cons_of_mem _ m) s q) (fun i x H H' hi ⟨P', s, q⟩ y => ?_) (fun H ⟨P', s, q⟩ => hd H P' s (by rw [List.take_of_length_le (by omega)] at q; exact q))
  · rw [List.take_zero]; exact h.new hD rfl
  · have hi2 : i < ys.length := by omega
    refine hs i x ys[i] H H' P' _ hi y (List.getElem?_eq_getElem hi2) s q (fun H'' P'' s' q' => ?_)
    refine ⟨ys.take i, q'.raw List.mem_cons_self, size_lt (by rw [List.length_take]; omega), P'', fun r m => s' r (s r m), ?_⟩
    rw [List.take_add_one, List.getElem?_eq_getElem hi2]
    exact q'.set .head rfl
/-- sifted: those of zs that t takes, as they are; tt tells t, te the thing -/
theorem lc_siftW {α : Type} {J : It} {G : Hp → Prop} {Y : Nat → Hp → V → Hp → Prop} (zs : List α) (f : α → V) (t : α → Bool) (w : Walk J zs.length G Y) (h : Own K H1 L P) (hD : H1 D = none) (hz : zs.length ≤ 10000)
    (ha : ∀ (H : Hp) (L' : List (Addr × Ob)) (P' : List Pf), (∀ p ∈ L, p ∈ L') → Ps P P' → Own K H L' P' → G H)
    (hs : ∀ (i : Nat) (z : α) (x : V) (H H' : Hp) (P' : List Pf) (ys : List V) (Qn : Hp → Prop) (Qy : VK), zs[i]? = some z → Y i H x H' → Ps P P' → Own K H ((D, .raw (.lst ys)) :: L) P' →
      (t z = false → ∀ (H'' : Hp) (P'' : List Pf), Ps P' P'' → Own K H'' ((D, .raw (.lst ys)) :: L) P'' → Qn H'') →
      (t z = true → ∀ (H'' : Hp) (P'' : List Pf), Ps P' P'' → Own K H'' ((D, .raw (.lst ys)) :: L) P'' → Qy (f z) H'') → g x (wipe σ wv) H' fun σ2 H2 => wipe σ2 wv = wipe σ wv ∧ tt σ2 H2 fun b H3 => if b = true then te σ2 H3 Qy else Qn H3)
    (hd : ∀ (H' : Hp) (P' : List Pf), Ps P P' → Own K H' ((D, .raw (.lst ((zs.filter t).map f))) :: L) P' → Qd H') :
    ∃ W : Nat → Nat → Hp → Prop, (∃ m, W 0 m (upd H1 D (.lst []))) ∧ ∀ i m H, W i m H →
      (J.stop i H ∧ Qd H) ∨ (J.go i H ∧ ∃ Nx : Hp → Prop, (∀ H', Nx H' → ∃ m', m' < m ∧ W (i + 1) m' H') ∧ ∀ x H', J.yld i H x H' → g x (wipe σ wv) H' fun σ2 H2 => wipe σ2 wv = wipe σ wv ∧ tt σ2 H2 fun b H3 =>
        if b = true then te σ2 H3 fun y H4 => ∃ acc, H4 D = some (.lst acc) ∧ acc.length < sizeLine ∧ Nx (upd H4 D (.lst (acc ++ [y]))) else Nx H3) := by
  refine lc_it w (fun i H => ∃ P', Ps P P' ∧ Own K H ((D, .raw (.lst (((zs.take i).filter t).map f))) :: L) P') ⟨P, Ps.refl, ?_⟩ (fun i H _ ⟨P', s, q⟩ => ha H _ P' (fun p m => List.mem_cons_of_mem _ m) s q) (fun i x H H' hi ⟨P', s, q⟩ y => ?_) (fun H ⟨P', s, q⟩ => hd H P' s (by rw [List.take_of_length_le (by omega)] at q; exact q))
  · rw [List.take_zero]; exact h.new hD rfl
  · have et : zs.take (i + 1) = zs.take i ++ [zs[i]] := by rw [List.take_add_one, List.getElem?_eq_getElem hi]; rfl
    refine hs i zs[i] x H H' P' _ _ _ (List.getElem?_eq_getElem hi) y s q (fun tn H'' P'' s' q' => ⟨P'', fun r m => s' r (s r m), ?_⟩) (fun ty H'' P'' s' q' => ?_)
    · rw [et, List.filter_append, List.filter_cons, tn]; simpa using q'
    · refine ⟨_, q'.raw List.mem_cons_self, size_lt (by rw [List.length_map]; exact Nat.le_trans (List.length_filter_le _ _) (by rw [List.length_take]; omega)), P'', fun r m => s' r (s r m), ?_⟩
      have e2 : ((zs.take (i + 1)).filter t).map f = ((zs.take i).filter t).map f ++ [f zs[i]] := by rw [et, List.filter_append, List.filter_cons, ty]; simp
      rw [e2]
      exact q'.set .head rfl
end
/-! ### the pot -/
def PotO (o : HO) : Prop := ∃ x y : Int, o = .lst [.int x, .int y] ∧ 0 ≤ x ∧ 0 ≤ y ∧ y < 4294967296
def pt (a : Addr) : List (Addr × Ob) := [(a, .such PotO)]
/-- called with the pot and how many: a number below that, and the pot is still one -/
def spDrw (K : PySem.W.Frag) : Sp := fun vs H Q _ => ∃ (a : Addr) (n : Int) (R : List (Addr × Ob)) (P : List Pf), vs = [.ref a, .int n] ∧ Own K H (pt a ++ R) P ∧ 0 < n ∧ n < 1073741824 ∧
  ∀ (d : Int) (H' : Hp), 0 ≤ d → d < n → Own K H' (pt a ++ R) P → Q (.int d) H'
end Hx

set_option Elab.async false
set_option linter.all false
set_option maxRecDepth 100000
set_option maxHeartbeats 4000000
/-! cuts: what holds behind a statement, behind a test, is said once for all ways that come there -/
namespace Hx
open PySem PySem.Spec PyProof.Rows L2
def tMid (t : TS) : TS := fun D σ H => Stop (∃ Mid : L2.St → Hp → Prop, t { D with nx := Mid } σ H ∧ ∀ σ' H', Mid σ' H' → D.nx σ' H')
theorem ps_mid {X : Cx} {st : Stmt} {t : TS} (h : PS X st t) : PS X st (tMid t) := by
  refine ⟨fun pins s σ H D I q => ?_⟩
  obtain ⟨Mid, q, r⟩ := q.h
  refine thn (h.run pins s σ H { D with nx := Mid } I q) fun f s1 q => ?_
  cases f with
  | next =>
    obtain ⟨σ', H', I', q⟩ := q
    exact ⟨σ', H', I', r _ _ q⟩
  | ret v => exact q
  | brk => exact q
  | cont => exact q
def tTMid (t : TT) : TT := fun σ H Q => Stop (∃ Mid : Bool → Hp → Prop, t σ H Mid ∧ ∀ b H', Mid b H' → Q b H')
theorem pt_mid {X : Cx} {c : Expr} {t : TT} (h : PT X c t) : PT X c (tTMid t) := by
  refine ⟨fun pins s σ H Q I q => ?_⟩
  obtain ⟨Mid, q, r⟩ := q.h
  refine thn (h.run pins s σ H Mid I q) fun d s1 q => ?_
  obtain ⟨H1, I1, q⟩ := q
  exact ⟨H1, I1, r _ _ q⟩
def tEMid (t : TE) : TE := fun σ H Q => Stop (∃ Mid : VK, t σ H Mid ∧ ∀ v H', Mid v H' → Q v H')
theorem pe_mid {X : Cx} {e : Expr} {t : TE} (h : PE X e t) : PE X e (tEMid t) := by
  refine ⟨fun pins s σ H Q I q => ?_⟩
  obtain ⟨Mid, q, r⟩ := q.h
  refine thn (h.run pins s σ H Mid I q) fun d s1 q => ?_
  obtain ⟨v, H1, I1, rv, q⟩ := q
  exact ⟨v, H1, I1, rv, r _ _ q⟩
theorem Ps.trans {P P' P'' : List Pf} (h : Ps P P') (k : Ps P' P'') : Ps P P'' := fun r hr => k r (h r hr)
end Hx

set_option Elab.async false
set_option linter.all false
set_option maxRecDepth 100000
set_option maxHeartbeats 4000000
/-! HsDict: dicts with keys of ints in owned heaps: look-ups, stores, walks under a lock, comprehensions; sorted lists -/
namespace Hx
open PySem PySem.Spec PyProof.Rows L2
/-- a target x, (y, z) -/
theorem pg_pairN {X : Cx} {i j l : Nat} {x y z : Str} {p1 p2 p3 pos pos2 : Pos} {kk kk2 : Nat} (hc : X.calm = true) (hN : X.N.Nodup) (hi : X.N[i]? = some x) (hj : X.N[j]? = some y) (hl : X.N[l]? = some z) (hx : Loc X.env.scope x) (hy : Loc X.env.scope y) (hz : Loc X.env.scope z)
    (hf : X.fn x = true ∨ X.env.scope.names.lookup x = some .local := by first | exact .inl rfl | exact .inr rfl | assumption) (hf2 : X.fn y = true ∨ X.env.scope.names.lookup y = some .local := by first | exact .inl rfl | exact .inr rfl | assumption) (hf3 : X.fn z = true ∨ X.env.scope.names.lookup z = some .local := by first | exact .inl rfl | exact .inr rfl | assumption)
    (hn : (assignEach [Expr.Name x p1, .Tuple [.Name y p2, .Name z p3] kk2 pos2] X.env).length = 2 := by rfl) (hst : (assignEach [Expr.Name x p1, .Tuple [.Name y p2, .Name z p3] kk2 pos2] X.env).findIdx? (·.1) = none := by rfl)
    (hs : (assignEach [Expr.Name x p1, .Tuple [.Name y p2, .Name z p3] kk2 pos2] X.env).map (·.2) = assign (.Name x p1) X.env :: (assignEach [Expr.Tuple [.Name y p2, .Name z p3] kk2 pos2] X.env).map (·.2) := by rfl)
    (hs2 : (assignEach [Expr.Tuple [.Name y p2, .Name z p3] kk2 pos2] X.env).map (·.2) = assign (.Tuple [.Name y p2, .Name z p3] kk2 pos2) X.env :: (assignEach [] X.env).map (·.2) := by rfl)
    (hn' : (assignEach [Expr.Name y p2, .Name z p3] X.env).length = 2 := by rfl) (hst' : (assignEach [Expr.Name y p2, .Name z p3] X.env).findIdx? (·.1) = none := by rfl)
    (hs' : (assignEach [Expr.Name y p2, .Name z p3] X.env).map (·.2) = assign (.Name y p2) X.env :: (assignEach [Expr.Name z p3] X.env).map (·.2) := by rfl)
    (hs2' : (assignEach [Expr.Name z p3] X.env).map (·.2) = assign (.Name z p3) X.env :: (assignEach [] X.env).map (·.2) := by rfl) :
    PG X (.Tuple [.Name x p1, .Tuple [.Name y p2, .Name z p3] kk2 pos2] kk pos) (gTup X.K 2 (gCons (gName i) (gCons (gTup X.K 2 (gCons (gName j) (gCons (gName l) gNil))) gNil))) :=
  pg_tup hc (pgs_cons (pg_name hN hi hx hf) (pgs_cons (pg_pair hc hN hj hl hy hz hf2 hf3 hn' hst' hs' hs2') pgs_nil hs2) hs) hn hst
/-! ### pairs as tables, of data -/
def valD (kds : List (Key × PyData)) (k : Key) : Option PyData := (kds.find? fun kv => decide (kv.1 = k)).map (·.2)
def putD (kds : List (Key × PyData)) (k : Key) (d : PyData) : List (Key × PyData) :=
  if (kds.any fun kv => decide (kv.1 = k)) = true then kds.map (fun kv => if kv.1 = k then (kv.1, d) else kv) else kds ++ [(k, d)]
def dropD (kds : List (Key × PyData)) (k : Key) : List (Key × PyData) := kds.filter fun kv => decide (kv.1 ≠ k)
section
variable {K : PySem.W.Frag} {P : List Pf}
theorem keys_cons {p : Key × V} {kvs : List (Key × V)} {q : Key × PyData} {kds : List (Key × PyData)} (h : (p :: kvs).map Prod.fst = (q :: kds).map Prod.fst) : p.1 = q.1 ∧ kvs.map Prod.fst = kds.map Prod.fst := by
  simpa using h
theorem valV_isSome : ∀ {kvs : List (Key × V)} {kds : List (Key × PyData)} (k : Key), kvs.map Prod.fst = kds.map Prod.fst → (valV kvs k).isSome = (valD kds k).isSome
  | [], [], _, _ => rfl
  | [], _ :: _, _, h => by simp at h
  | _ :: _, [], _, h => by simp at h
  | p :: kvs, q :: kds, k, h => by
    obtain ⟨h1, h2⟩ := keys_cons h
    have ih := valV_isSome k h2
    by_cases e : p.1 = k
    · have e2 : q.1 = k := h1 ▸ e
      simp [valV, valD, List.find?_cons, e, e2]
    · have e2 : ¬ q.1 = k := h1 ▸ e
      simp only [valV, valD] at ih
      simp [valV, valD, List.find?_cons, e, e2, ih]
theorem valV_dp {M : Hp} : ∀ {kvs : List (Key × V)} {kds : List (Key × PyData)} {k : Key} {v : V} {d : PyData}, kvs.map Prod.fst = kds.map Prod.fst → DpAll K M (kvs.map Prod.snd) (kds.map Prod.snd) → valV kvs k = some v → valD kds k = some d → Dp K M v d
  | [], _, k, v, d, _, _, e, _ => by simp [valV] at e
  | _ :: _, [], _, _, _, h, _, _, _ => by simp at h
  | p :: kvs, q :: kds, k, v, d, h, hd, e1, e2 => by
    obtain ⟨h1, h2⟩ := keys_cons h
    cases hd with
    | cons x y =>
      by_cases e : p.1 = k
      · have e' : q.1 = k := h1 ▸ e
        simp [valV, List.find?_cons, e] at e1
        simp [valD, List.find?_cons, e'] at e2
        subst e1; subst e2
        exact x
      · have e' : ¬ q.1 = k := h1 ▸ e
        refine valV_dp (k := k) h2 y ?_ ?_
        · simpa [valV, List.find?_cons, e] using e1
        · simpa [valD, List.find?_cons, e'] using e2
theorem Dv.val {kvs : List (Key × V)} {kds : List (Key × PyData)} {k : Key} {v : V} {d : PyData} (x : Dv K P (kvs.map Prod.snd) (kds.map Prod.snd)) (hk : kvs.map Prod.fst = kds.map Prod.fst) (e1 : valV kvs k = some v) (e2 : valD kds k = some d) : Dv1 K P v d := fun M h => valV_dp hk (x M h) e1 e2
theorem valV_of {kvs : List (Key × V)} {kds : List (Key × PyData)} {k : Key} {d : PyData} (hk : kvs.map Prod.fst = kds.map Prod.fst) (e : valD kds k = some d) : ∃ v, valV kvs k = some v := by
  have := valV_isSome k hk
  rw [e] at this
  exact Option.isSome_iff_exists.mp this
theorem valV_ofN {kvs : List (Key × V)} {kds : List (Key × PyData)} {k : Key} (hk : kvs.map Prod.fst = kds.map Prod.fst) (e : valD kds k = none) : valV kvs k = none := by
  have := valV_isSome k hk
  rw [e] at this
  exact Option.not_isSome_iff_eq_none.mp (by rw [this]; decide)
theorem any_keys : ∀ {kvs : List (Key × V)} {kds : List (Key × PyData)} (k : Key), kvs.map Prod.fst = kds.map Prod.fst → (kvs.any fun kv => decide (kv.1 = k)) = (kds.any fun kv => decide (kv.1 = k))
  | [], [], _, _ => rfl
  | [], _ :: _, _, h => by simp at h
  | _ :: _, [], _, h => by simp at h
  | p :: kvs, q :: kds, k, h => by
    obtain ⟨h1, h2⟩ := keys_cons h
    rw [List.any_cons, List.any_cons, any_keys k h2, h1]
theorem putK_fst {kvs : List (Key × V)} {kds : List (Key × PyData)} (hk : kvs.map Prod.fst = kds.map Prod.fst) (k : Key) (v : V) (d : PyData) : (putK kvs k v).map Prod.fst = (putD kds k d).map Prod.fst := by
  have e : ∀ {α : Type} (y : α) (l : List (Key × α)), (l.map fun kv => if kv.1 = k then (kv.1, y) else kv).map Prod.fst = l.map Prod.fst := fun y l => by
    rw [List.map_map]
    refine List.map_congr_left fun kv _ => ?_
    simp only [Function.comp]
    split <;> rfl
  unfold putK putD
  rw [any_keys k hk]
  split
  · rw [e, e, hk]
  · rw [List.map_append, List.map_append, hk]; rfl
theorem put_dp {M : Hp} : ∀ {kvs : List (Key × V)} {kds : List (Key × PyData)} {k : Key} {v : V} {d : PyData}, kvs.map Prod.fst = kds.map Prod.fst → DpAll K M (kvs.map Prod.snd) (kds.map Prod.snd) → Dp K M v d →
    DpAll K M ((kvs.map fun kv => if kv.1 = k then (kv.1, v) else kv).map Prod.snd) ((kds.map fun kv => if kv.1 = k then (kv.1, d) else kv).map Prod.snd)
  | [], [], _, _, _, _, _, _ => .nil
  | [], _ :: _, _, _, _, h, _, _ => by simp at h
  | _ :: _, [], _, _, _, h, _, _ => by simp at h
  | p :: kvs, q :: kds, k, v, d, h, hd, x => by
    obtain ⟨h1, h2⟩ := keys_cons h
    cases hd with
    | cons a b =>
      have ih := put_dp (k := k) h2 b x
      simp only [List.map_cons]
      refine .cons ?_ ih
      by_cases e : p.1 = k
      · rw [if_pos e, if_pos (h1 ▸ e)]; exact x
      · rw [if_neg e, if_neg (h1 ▸ e)]; exact a
theorem Dv.put {kvs : List (Key × V)} {kds : List (Key × PyData)} {k : Key} {v : V} {d : PyData} (x : Dv K P (kvs.map Prod.snd) (kds.map Prod.snd)) (hk : kvs.map Prod.fst = kds.map Prod.fst) (y : Dv1 K P v d) : Dv K P ((putK kvs k v).map Prod.snd) ((putD kds k d).map Prod.snd) := fun M h => by
  unfold putK putD
  rw [any_keys k hk]
  split
  · exact put_dp hk (x M h) (y M h)
  · rw [List.map_append, List.map_append]
    exact L2.DpAll.app' (x M h) (.cons (y M h) .nil)
theorem dropK_fst : ∀ {kvs : List (Key × V)} {kds : List (Key × PyData)} (k : Key), kvs.map Prod.fst = kds.map Prod.fst → (dropK kvs k).map Prod.fst = (dropD kds k).map Prod.fst
  | [], [], _, _ => rfl
  | [], _ :: _, _, h => by simp at h
  | _ :: _, [], _, h => by simp at h
  | p :: kvs, q :: kds, k, h => by
    obtain ⟨h1, h2⟩ := keys_cons h
    have ih := dropK_fst k h2
    unfold dropK dropD at ih ⊢
    rw [List.filter_cons, List.filter_cons, h1]
    split
    · rw [List.map_cons, List.map_cons, ih, h1]
    · exact ih
theorem drop_dp {M : Hp} : ∀ {kvs : List (Key × V)} {kds : List (Key × PyData)} {k : Key}, kvs.map Prod.fst = kds.map Prod.fst → DpAll K M (kvs.map Prod.snd) (kds.map Prod.snd) → DpAll K M ((dropK kvs k).map Prod.snd) ((dropD kds k).map Prod.snd)
  | [], [], _, _, _ => .nil
  | [], _ :: _, _, h, _ => by simp at h
  | _ :: _, [], _, h, _ => by simp at h
  | p :: kvs, q :: kds, k, h, hd => by
    obtain ⟨h1, h2⟩ := keys_cons h
    cases hd with
    | cons a b =>
      have ih := drop_dp (k := k) h2 b
      unfold dropK dropD at ih ⊢
      rw [List.filter_cons, List.filter_cons, h1]
      split
      · exact .cons a ih
      · exact ih
theorem Dv.drop' {kvs : List (Key × V)} {kds : List (Key × PyData)} {k : Key} (x : Dv K P (kvs.map Prod.snd) (kds.map Prod.snd)) (hk : kvs.map Prod.fst = kds.map Prod.fst) : Dv K P ((dropK kvs k).map Prod.snd) ((dropD kds k).map Prod.snd) := fun M h => drop_dp hk (x M h)
/-! rows as a table -/
theorem valD_rows {α : Type} (key : α → Int) (dat : α → PyData) (rs : List α) (n : Int) : valD (rs.map fun r => (Sum.inl (key r), dat r)) (Sum.inl n) = (rs.find? fun r => decide (key r = n)).map dat := by
  unfold valD
  rw [List.find?_map, Option.map_map]
  congr 1
  congr 1
  funext r
  simp [Function.comp]
theorem dropD_rows {α : Type} (key : α → Int) (dat : α → PyData) (rs : List α) (n : Int) : dropD (rs.map fun r => (Sum.inl (key r), dat r)) (Sum.inl n) = (rs.filter fun r => decide (key r ≠ n)).map fun r => (Sum.inl (key r), dat r) := by
  unfold dropD
  rw [List.filter_map]
  congr 1
  congr 1
  funext r
  simp [Function.comp]
theorem putD_new {kds : List (Key × PyData)} {k : Key} {d : PyData} (h : valD kds k = none) : putD kds k d = kds ++ [(k, d)] := by
  unfold putD
  rw [if_neg]
  intro e
  obtain ⟨x, hx, he⟩ := List.any_eq_true.mp e
  unfold valD at h
  rw [Option.map_eq_none_iff, List.find?_eq_none] at h
  exact h x hx he
theorem putD_rows {α : Type} (key : α → Int) (dat : α → PyData) (rs : List α) (n : Int) (d : PyData) (f : α → α) (hin : ∃ r ∈ rs, key r = n) (hk : ∀ r, key (f r) = key r) (hd : ∀ r ∈ rs, key r = n → dat (f r) = d) (ho : ∀ r ∈ rs, key r ≠ n → f r = r) :
    putD (rs.map fun r => (Sum.inl (key r), dat r)) (Sum.inl n) d = (rs.map f).map fun r => (Sum.inl (key r), dat r) := by
  unfold putD
  rw [if_pos]
  · rw [List.map_map, List.map_map]
    refine List.map_congr_left fun r hr => ?_
    simp only [Function.comp]
    by_cases e : key r = n
    · rw [if_pos (by rw [e]), hk, hd r hr e]
    · rw [if_neg (fun z => e (by injection z)), ho r hr e]
  · obtain ⟨r, hr, e⟩ := hin
    rw [List.any_map]
    exact List.any_eq_true.mpr ⟨r, hr, by simp [Function.comp, e]⟩
end
/-! ### walker's facts -/
theorem DGet.ki {H : Hp} {a : Addr} {kvs : List (Key × V)} {n : Int} {o : Option V} (e : H a = some (.dK kvs)) (h : valV kvs (Sum.inl n) = o) : DGet H a (.int n) o := h ▸ DGet.k (k := Sum.inl n) e
theorem DGet.kiF {H : Hp} {a : Addr} {kvs : List (Key × V)} {n : Int} {o : Option V} {od : Obj} (e : H a = some (.frz od (.dK kvs))) (h : valV kvs (Sum.inl n) = o) : DGet H a (.int n) o := h ▸ .inl ⟨kvs, Sum.inl n, .inr ⟨od, e⟩, rfl, rfl⟩
theorem DPut.ki {H : Hp} {a : Addr} {kvs : List (Key × V)} {n : Int} {v : V} (e : H a = some (.dK kvs)) (hl : kvs.length < sizeLine) : DPut H a (.int n) v (upd H a (.dK (putK kvs (Sum.inl n) v))) := DPut.k (k := Sum.inl n) e hl
theorem at0 (v : V) (l : List V) : atI (v :: l) 0 = some v := by
  have h := atI_nat (xs := v :: l) (j := 0) (v := v) rfl
  exact h
theorem at1 (u v : V) (l : List V) : atI (u :: v :: l) 1 = some v := by
  have h := atI_nat (xs := u :: v :: l) (j := 1) (v := v) rfl
  exact h
theorem at2 (t u v : V) (l : List V) : atI (t :: u :: v :: l) 2 = some v := by
  have h := atI_nat (xs := t :: u :: v :: l) (j := 2) (v := v) rfl
  exact h
theorem isSome_ofV {o : Option V} {v : V} (h : o = some v) : o.isSome = true := by rw [h]; rfl
theorem kV_int {n : Int} : V.int n = kV (Sum.inl n) := rfl
/-! ### locks at which the walker stops -/
def tLockS (t : TS) : TS := fun D σ H => Stop (tLock t D σ H)
def tLockES (t : TE) : TE := fun σ H Q => Stop (tLockE t σ H Q)
theorem tLockS_eq (t : TS) : tLockS t = tLock t := by funext D σ H; exact stop_eq
theorem tLockES_eq (t : TE) : tLockES t = tLockE t := by funext σ H Q; exact stop_eq
theorem ps_lockS {X : Cx} {st : Stmt} {t : TS} (h : PS X st t) : PS X st (tLockS t) := by rw [tLockS_eq]; exact ps_lock h
theorem pe_lockS {X : Cx} {e : Expr} {t : TE} (h : PE X e t) : PE X e (tLockES t) := by rw [tLockES_eq]; exact pe_lock h
variable {K : PySem.W.Frag} {H H1 M : Hp} {L L' R B : List (Addr × Ob)} {P P' : List Pf} {a d : Addr} {u : HO}
theorem Own.lockE {t : TE} {σ : L2.St} {Q : VK} (h : Own K H L P) (m : (d, Ob.raw u) ∈ L) (hm : Mut (some u)) (k : ∀ (od : Obj) (H1 : Hp), (∀ L', At L d (.raw (.frz od u)) L' → Own K H1 L' P) → t σ H1 fun v H' => H' d = some (.frz od u) ∧ Q v (upd H' d u)) : tLockES t σ H Q :=
  ⟨⟨d, u, h.raw m, hm, fun od => k od _ fun L' m' => h.set m' rfl⟩⟩
theorem Own.lockS {t : TS} {σ : L2.St} {D : L2.Ends} (h : Own K H L P) (m : (d, Ob.raw u) ∈ L) (hm : Mut (some u)) (k : ∀ (od : Obj) (H1 : Hp), (∀ L', At L d (.raw (.frz od u)) L' → Own K H1 L' P) →
    t ⟨fun σ' H' => H' d = some (.frz od u) ∧ D.nx σ' (upd H' d u), fun v H' => H' d = some (.frz od u) ∧ D.rt v (upd H' d u), fun σ' H' => H' d = some (.frz od u) ∧ D.bk σ' (upd H' d u), fun σ' H' => H' d = some (.frz od u) ∧ D.ct σ' (upd H' d u)⟩ σ H1) : tLockS t D σ H :=
  ⟨⟨d, u, h.raw m, hm, fun od => k od _ fun L' m' => h.set m' rfl⟩⟩
/-! ### a tuple of any data opened -/
theorem Own.opnD {v : V} {ds : List PyData} (h : Own K H L P) (x : Dv1 K P v (.tuple ds)) : ∃ t vs, v = .ref t ∧ vs.length = ds.length ∧ Own K H L (.sq t vs :: .dp vs ds :: P) := by
  obtain ⟨M, nd, hl, hs, hp⟩ := h.ex
  cases x M hp with
  | @tup t xs _ hq ha =>
    refine ⟨t, xs, rfl, ha.len, M, nd, hl, hs, fun q hq' => ?_⟩
    rcases List.mem_cons.mp hq' with rfl | hq'
    · exact hq
    rcases List.mem_cons.mp hq' with rfl | hq'
    · exact ha
    · exact hp q hq'
theorem Own.opn2 {v : V} {x y : PyData} (h : Own K H L P) (q : Dv1 K P v (.tuple [x, y])) : ∃ t a b, v = .ref t ∧ Own K H L (.sq t [a, b] :: .dp [a] [x] :: .dp [b] [y] :: P) := by
  obtain ⟨t, vs, e, hl, o⟩ := h.opnD q
  match vs, hl with
  | [a, b], _ =>
    refine ⟨t, a, b, e, ?_⟩
    have dv : Dv K (.sq t [a, b] :: .dp [a, b] [x, y] :: P) [a, b] [x, y] := Dv.of (List.mem_cons_of_mem _ List.mem_cons_self)
    have o2 := o.dv1 dv.tl.hd
    have o3 := o2.dv1 (v := a) (d := x) (fun M hM => dv.hd M fun q hq => hM q (List.mem_cons_of_mem _ hq))
    refine o3.sub (Sb.refl _) fun r hr => ?_
    simp only [List.mem_cons] at hr ⊢
    rcases hr with rfl | rfl | rfl | hr
    · simp
    · simp
    · simp
    · simp [hr]
theorem Dv1.mono {v : V} {d : PyData} (h : Dv1 K P v d) (s : Ps P P') : Dv1 K P' v d := fun M q => h M fun r hr => q r (s r hr)
theorem Dv.mono {vs : List V} {ds : List PyData} (h : Dv K P vs ds) (s : Ps P P') : Dv K P' vs ds := fun M q => h M fun r hr => q r (s r hr)
theorem Dv1.intD {v : V} {i : Int} (h : Dv1 K P v (.int i)) (o : Own K H L P) : v = .int i := by
  cases o.one h with | int _ => rfl
abbrev rMax2 : List V → Hp → VK → Prop := fun xs H Q => ∃ i j, xs = [.int i, .int j] ∧ Q (.int (if j > i then j else i)) H
/-! ### comprehensions of dicts -/
section
variable {g : TG} {te tk tv : TE} {tt : TT} {wv : List Nat} {σ : L2.St} {D : Addr} {Qd : Hp → Prop}
theorem dc_it {J : It} {n : Nat} {G : Hp → Prop} {Y : Nat → Hp → V → Hp → Prop} (w : Walk J n G Y) (Pv : Nat → Hp → Prop) (h0 : Pv 0 (upd H1 D (.dK []))) (hG : ∀ i H, i ≤ n → Pv i H → G H)
    (hs : ∀ i x H H', i < n → Pv i H → Y i H x H' → g x (wipe σ wv) H' fun σ2 H2 => wipe σ2 wv = wipe σ wv ∧ tt σ2 H2 fun b H3 =>
      if b = true then tk σ2 H3 fun y H4 => tv σ2 H4 fun z H5 => ∃ kvs k, y = kV k ∧ H5 D = some (.dK kvs) ∧ kvs.length < sizeLine ∧ Pv (i + 1) (upd H5 D (.dK (putK kvs k z))) else Pv (i + 1) H3) (hd : ∀ H, Pv n H → Qd H) :
    ∃ W : Nat → Nat → Hp → Prop, (∃ m, W 0 m (upd H1 D (.dK []))) ∧ ∀ i m H, W i m H →
      (J.stop i H ∧ Qd H) ∨ (J.go i H ∧ ∃ Nx : Hp → Prop, (∀ H', Nx H' → ∃ m', m' < m ∧ W (i + 1) m' H') ∧ ∀ x H', J.yld i H x H' → g x (wipe σ wv) H' fun σ2 H2 => wipe σ2 wv = wipe σ wv ∧ tt σ2 H2 fun b H3 =>
        if b = true then tk σ2 H3 fun y H4 => tv σ2 H4 fun z H5 => ∃ kvs k, y = kV k ∧ H5 D = some (.dK kvs) ∧ kvs.length < sizeLine ∧ Nx (upd H5 D (.dK (putK kvs k z))) else Nx H3) := by
  refine ⟨fun i m H => m = n - i ∧ i ≤ n ∧ Pv i H, ⟨n, by simp, Nat.zero_le _, h0⟩, ?_⟩
  rintro i m H ⟨rfl, hi, p⟩
  have q := hG i H hi p
  by_cases hlt : i < n
  · refine .inr ⟨w.goes i H hlt q, Pv (i + 1), fun H' p' => ⟨n - (i + 1), by omega, rfl, hlt, p'⟩, fun x H' y => hs i x H H' hlt p (w.yields i H x H' hlt q y)⟩
  · have e : i = n := by omega
    subst e
    exact .inl ⟨w.stops H q, hd H p⟩
/-- a new dict by a walk, sifted; its keys are all different -/
theorem dc_siftW {α : Type} {J : It} {G : Hp → Prop} {Y : Nat → Hp → V → Hp → Prop} (zs : List α) (key : α → Int) (dat : α → PyData) (t : α → Bool) (nd : (zs.map key).Nodup) (w : Walk J zs.length G Y) (h : Own K H1 L P) (hD : H1 D = none) (hz : zs.length ≤ 10000)
    (ha : ∀ (H : Hp) (L' : List (Addr × Ob)) (P' : List Pf), (∀ p ∈ L, p ∈ L') → Ps P P' → Own K H L' P' → G H)
    (hs : ∀ (i : Nat) (z : α) (x : V) (H H' : Hp) (P' : List Pf) (kds : List (Key × PyData)) (Qn : Hp → Prop) (Qy : V → V → Hp → Prop), zs[i]? = some z → Y i H x H' → Ps P P' → Own K H ((D, .D kds) :: L) P' →
      (t z = false → ∀ (H'' : Hp) (P'' : List Pf), Ps P' P'' → Own K H'' ((D, .D kds) :: L) P'' → Qn H'') →
      (t z = true → ∀ (y : V) (H'' : Hp) (P'' : List Pf), Ps P' P'' → Own K H'' ((D, .D kds) :: L) P'' → Dv1 K P'' y (dat z) → Qy (.int (key z)) y H'') →
      g x (wipe σ wv) H' fun σ2 H2 => wipe σ2 wv = wipe σ wv ∧ tt σ2 H2 fun b H3 => if b = true then tk σ2 H3 fun y H4 => tv σ2 H4 fun z H5 => Qy y z H5 else Qn H3)
    (hd : ∀ (H' : Hp) (P' : List Pf), Ps P P' → Own K H' ((D, .D ((zs.filter t).map fun z => (Sum.inl (key z), dat z))) :: L) P' → Qd H') :
    ∃ W : Nat → Nat → Hp → Prop, (∃ m, W 0 m (upd H1 D (.dK []))) ∧ ∀ i m H, W i m H →
      (J.stop i H ∧ Qd H) ∨ (J.go i H ∧ ∃ Nx : Hp → Prop, (∀ H', Nx H' → ∃ m', m' < m ∧ W (i + 1) m' H') ∧ ∀ x H', J.yld i H x H' → g x (wipe σ wv) H' fun σ2 H2 => wipe σ2 wv = wipe σ wv ∧ tt σ2 H2 fun b H3 =>
        if b = true then tk σ2 H3 fun y H4 => tv σ2 H4 fun z H5 => ∃ kvs k, y = kV k ∧ H5 D = some (.dK kvs) ∧ kvs.length < sizeLine ∧ Nx (upd H5 D (.dK (putK kvs k z))) else Nx H3) := by
  refine dc_it w (fun i H => ∃ P', Ps P P' ∧ Own K H ((D, .D (((zs.take i).filter t).map fun z => (Sum.inl (key z), dat z))) :: L) P') ⟨P, Ps.refl, ?_⟩ (fun i H _ ⟨P', s, q⟩ => ha H _ P' (fun p m => List.mem_cons_of_mem _ m) s q) (fun i x H H' hi ⟨P', s, q⟩ y => ?_) (fun H ⟨P', s, q⟩ => hd H P' s (by rw [List.take_of_length_le (Nat.le_refl _)] at q; exact q))
  · have h2 := h.new hD (o := .dK []) rfl
    exact h2.closeD (kvs := []) List.mem_cons_self (by rw [List.take_zero]; rfl) (by rw [List.take_zero]; exact Dv.nil) .head
  · have et : zs.take (i + 1) = zs.take i ++ [zs[i]] := by rw [List.take_add_one, List.getElem?_eq_getElem hi]; rfl
    refine hs i zs[i] x H H' P' _ _ _ (List.getElem?_eq_getElem hi) y s q (fun tn H'' P'' s' q' => ⟨P'', fun r m => s' r (s r m), ?_⟩) (fun ty y H'' P'' s' q' dv => ?_)
    · rw [et, List.filter_append, List.filter_cons, tn]; simpa using q'
    · obtain ⟨kvs, hk, o1⟩ := q'.openD List.mem_cons_self
      have hlen : kvs.length = (((zs.take i).filter t).map fun z => ((Sum.inl (key z) : Key), dat z)).length := by simpa using congrArg List.length hk
      have hraw : H'' D = some (.dK kvs) := (o1 _ .head).raw List.mem_cons_self
      refine ⟨kvs, Sum.inl (key zs[i]), rfl, hraw, size_lt (by
        rw [hlen, List.length_map]
        exact Nat.le_trans (List.length_filter_le _ _) (by rw [List.length_take]; omega)), P'', fun r m => s' r (s r m), ?_⟩
      have nv : valD (((zs.take i).filter t).map fun z => (Sum.inl (key z), dat z)) (Sum.inl (key zs[i])) = none := by
        rw [valD_rows, Option.map_eq_none_iff, List.find?_eq_none]
        intro r hr e
        have hr' := (List.mem_filter.mp hr).1
        have e' : key r = key zs[i] := of_decide_eq_true e
        have nd2 : ((zs.take (i + 1)).map key).Nodup := (nd.sublist ((List.take_sublist _ _).map key))
        rw [et, List.map_append, List.nodup_append] at nd2
        exact nd2.2.2 (key r) (List.mem_map_of_mem hr') (key zs[i]) (by simp) e'
      have e2 : ((zs.take (i + 1)).filter t).map (fun z => ((Sum.inl (key z) : Key), dat z)) = putD (((zs.take i).filter t).map fun z => (Sum.inl (key z), dat z)) (Sum.inl (key zs[i])) (dat zs[i]) := by
        rw [putD_new nv, et, List.filter_append, List.filter_cons, ty]; simp
      rw [e2]
      have q3 := o1 _ .head
      refine Own.sub (q3.setO (o := .dK (putK kvs (Sum.inl (key zs[i])) y)) (ob := .D (putD (((zs.take i).filter t).map fun z => (Sum.inl (key z), dat z)) (Sum.inl (key zs[i])) (dat zs[i]))) .head rfl fun M hp => ⟨putK kvs (Sum.inl (key zs[i])) y, upd_same, putK_fst hk _ _ _, ?_⟩) (Sb.refl _) (Ps.skip Ps.refl)
      exact (Dv.put (P := .dp (kvs.map Prod.snd) ((((zs.take i).filter t).map fun z => ((Sum.inl (key z) : Key), dat z)).map Prod.snd) :: P'') (Dv.of List.mem_cons_self) hk (fun M h => dv M fun q hq => h q (List.mem_cons_of_mem _ hq))) M hp
end
theorem walk_ints {K : PySem.W.Frag} {a : Addr} {ns : List Int} : Walk (Itl K a) ns.length (fun H => SqL K H a (ns.map V.int)) (YAt (ns.map V.int)) := by
  have w := walk_list (K := K) (a := a) (xs := ns.map V.int)
  rw [List.length_map] at w
  exact w
/-! ### sorted lists of ints -/
theorem sorted_eq : ∀ {xs ys : List Int}, xs.Perm ys → xs.Pairwise (· ≤ ·) → ys.Pairwise (· ≤ ·) → xs = ys
  | [], ys, p, _, _ => by
    have := p.length_eq
    simp at this
    exact (List.eq_nil_of_length_eq_zero this.symm).symm
  | x :: xs, [], p, _, _ => by
    have := p.length_eq
    simp at this
  | x :: xs, y :: ys, p, hx, hy => by
    have h1 := List.pairwise_cons.mp hx
    have h2 := List.pairwise_cons.mp hy
    have e : x = y := by
      have a : x ∈ y :: ys := p.mem_iff.mp List.mem_cons_self
      have b : y ∈ x :: xs := p.mem_iff.mpr List.mem_cons_self
      rcases List.mem_cons.mp a with a | a
      · exact a
      rcases List.mem_cons.mp b with b | b
      · exact b.symm
      · have := h1.1 y b
        have := h2.1 x a
        omega
    subst e
    rw [sorted_eq (List.Perm.cons_inv p) h1.2 h2.2]
/-- the rising list -/
def srt (xs : List Int) : List Int := xs.mergeSort (fun a b => decide (a ≤ b))
theorem srt_perm (xs : List Int) : (srt xs).Perm xs := List.mergeSort_perm _ _
theorem srt_pw (xs : List Int) : (srt xs).Pairwise (· ≤ ·) := by
  have := List.pairwise_mergeSort (le := fun a b : Int => decide (a ≤ b)) (fun a b c h1 h2 => by simp at h1 h2 ⊢; omega) (fun a b => by simp; omega) xs
  exact this.imp fun h => by simpa using h
theorem srt_of {xs ys : List Int} (p : ys.Perm xs) (h : ys.Pairwise (· ≤ ·)) : ys = srt xs := sorted_eq (p.trans (srt_perm xs).symm) h (srt_pw xs)
theorem srt_eq {xs ys : List Int} (p : xs.Perm ys) : srt xs = srt ys := sorted_eq ((srt_perm xs).trans (p.trans (srt_perm ys).symm)) (srt_pw _) (srt_pw _)
theorem srt_len (xs : List Int) : (srt xs).length = xs.length := (srt_perm xs).length_eq
theorem srt_mem {xs : List Int} {x : Int} : x ∈ srt xs ↔ x ∈ xs := (srt_perm xs).mem_iff
theorem srt_filter (xs : List Int) (p : Int → Bool) : (srt xs).filter p = srt (xs.filter p) := srt_of ((srt_perm xs).filter p) ((srt_pw xs).filter p)
theorem srt_rev {xs ys : List Int} (p : ys.Perm xs) (h : ys.Pairwise (· ≥ ·)) : ys = (srt xs).reverse := by
  have e : ys.reverse = srt xs := srt_of ((List.reverse_perm ys).trans p) (List.pairwise_reverse.mpr h)
  rw [← e, List.reverse_reverse]
/-! ### a dict beside an empty one -/
theorem op_dE {X : Cx} (hu : X.A.units < cLine) (op : CmpOp) (t : Bool → Bool) (hop : (op = .Eq ∧ t = id) ∨ (op = .NotEq ∧ t = not)) : OpR X (compareOp op) (fun x y H Q => ∃ (a b : Addr) (kvs : List (Key × V)), x = .ref a ∧ y = .ref b ∧ H a = some (.dK kvs) ∧ H b = some (.dK []) ∧ Q (.bl (t kvs.isEmpty)) H) := by
  intro pins s σ H x y v u Q I rx ry hh
  obtain ⟨a, b, kvs, rfl, rfl, e1, e2, q⟩ := hh
  have rx' : v = Value.ref a := rx
  have ry' : u = Value.ref b := ry
  subst rx' ry'
  obtain ⟨_, n1, v1, r1, d1⟩ := (show ObjOk X.prog X.w H s.heap a (.dK kvs) from I.hok a _ e1)
  obtain ⟨_, n2, v2, r2, d2⟩ := (show ObjOk X.prog X.w H s.heap b (.dK []) from I.hok b _ e2)
  have l2 : v2.length = 0 := by rw [← r2.length]; rfl
  have l1 : v1.length = kvs.length := r1.length.symm
  have hz : v1.length = v2.length → kvs = [] := fun e => List.eq_nil_of_length_eq_zero (by omega)
  have hh : v1.length = v2.length → PySem.W.KeqHits X.A.in1 s v2 v1 true := fun e => by
    have := hz e
    subst this
    exact hits_all r2 r1 (fun p hp => nomatch hp)
  have eb : (v1.length == v2.length && true) = kvs.isEmpty := by
    rw [l1, l2]
    cases kvs <;> simp
  rcases hop with ⟨rfl, rfl⟩ | ⟨rfl, rfl⟩
  · exact PySem.W.keq_eq (r := true) n1 n2 d1 d2 hu hh (fin_bl I q (by rw [eb]; rfl))
  · exact PySem.W.keq_ne (r := true) n1 n2 d1 d2 hu hh (fin_bl I q (by rw [eb]))
theorem op_neE {X : Cx} (hu : X.A.units + 64 < cLine) : OpR X (compareOp .NotEq) (fun x y H Q => ∃ (a b : Addr) (kvs : List (Key × V)), x = .ref a ∧ y = .ref b ∧ H a = some (.dK kvs) ∧ H b = some (.dK []) ∧ Q (.bl (!kvs.isEmpty)) H) := op_dE (by omega) .NotEq not (.inr ⟨rfl, rfl⟩)
/-! ### strictly rising lists -/
theorem ris_eq : ∀ {xs ys : List Int}, (∀ z, z ∈ xs ↔ z ∈ ys) → xs.Pairwise (· < ·) → ys.Pairwise (· < ·) → xs = ys
  | [], [], _, _, _ => rfl
  | [], y :: ys, h, _, _ => nomatch (h y).mpr List.mem_cons_self
  | x :: xs, [], h, _, _ => nomatch (h x).mp List.mem_cons_self
  | x :: xs, y :: ys, h, hx, hy => by
    have h1 := List.pairwise_cons.mp hx
    have h2 := List.pairwise_cons.mp hy
    have e : x = y := by
      rcases List.mem_cons.mp ((h x).mp List.mem_cons_self) with a | a
      · exact a
      rcases List.mem_cons.mp ((h y).mpr List.mem_cons_self) with b | b
      · exact b.symm
      · have := h1.1 y b
        have := h2.1 x a
        omega
    subst e
    refine congrArg (x :: ·) (ris_eq (fun z => ?_) h1.2 h2.2)
    have := h z
    simp only [List.mem_cons] at this
    constructor
    · intro hz
      rcases this.mp (.inr hz) with e | e
      · have := h1.1 z hz; omega
      · exact e
    · intro hz
      rcases this.mpr (.inr hz) with e | e
      · have := h2.1 z hz; omega
      · exact e
/-- put in where it belongs, unless it is there -/
def insU (x : Int) : List Int → List Int
  | [] => [x]
  | y :: ys => if x < y then x :: y :: ys else if x = y then y :: ys else y :: insU x ys
/-- each once, rising -/
def uq (xs : List Int) : List Int := xs.foldr insU []
theorem insU_mem {x z : Int} : ∀ {l : List Int}, z ∈ insU x l ↔ z = x ∨ z ∈ l
  | [] => by simp [insU]
  | y :: ys => by
    unfold insU
    split
    · simp
    · split
      · rename_i h; subst h; simp
      · simp [insU_mem (l := ys)]
        constructor
        · rintro (h | h | h) <;> simp [h]
        · rintro (h | h | h) <;> simp [h]
theorem insU_pw {x : Int} : ∀ {l : List Int}, l.Pairwise (· < ·) → (insU x l).Pairwise (· < ·)
  | [], _ => by simp [insU]
  | y :: ys, h => by
    have h1 := List.pairwise_cons.mp h
    unfold insU
    split
    · rename_i hl
      refine List.pairwise_cons.mpr ⟨fun z hz => ?_, h⟩
      rcases List.mem_cons.mp hz with rfl | hz
      · exact hl
      · have := h1.1 z hz; omega
    · split
      · exact h
      · refine List.pairwise_cons.mpr ⟨fun z hz => ?_, insU_pw h1.2⟩
        rcases insU_mem.mp hz with rfl | hz
        · omega
        · exact h1.1 z hz
theorem uq_mem {xs : List Int} {z : Int} : z ∈ uq xs ↔ z ∈ xs := by
  induction xs with
  | nil => simp [uq]
  | cons x xs ih => simp only [uq, List.foldr_cons] at ih ⊢; rw [insU_mem, ih, List.mem_cons]
theorem uq_pw (xs : List Int) : (uq xs).Pairwise (· < ·) := by
  induction xs with
  | nil => simp [uq]
  | cons x xs ih => exact insU_pw ih
theorem uq_of {xs ys : List Int} (h : ys.Pairwise (· < ·)) (k : ∀ z, z ∈ ys ↔ z ∈ xs) : ys = uq xs := ris_eq (fun z => by rw [k, uq_mem]) h (uq_pw xs)
theorem insU_len (x : Int) : ∀ l : List Int, (insU x l).length ≤ l.length + 1
  | [] => by simp [insU]
  | y :: ys => by
    have := insU_len x ys
    unfold insU
    split
    · simp
    · split <;> simp <;> omega
theorem uq_len (xs : List Int) : (uq xs).length ≤ xs.length := by
  induction xs with
  | nil => simp [uq]
  | cons x xs ih =>
    simp only [uq, List.foldr_cons, List.length_cons] at ih ⊢
    exact Nat.le_trans (insU_len _ _) (by omega)
end Hx

set_option Elab.async false
set_option linter.all false
set_option maxRecDepth 100000
set_option maxHeartbeats 4000000
/-! HsSetR: set(xs), xs a list or a tuple of ints; sorted of it is the rising list of what stands in it -/
namespace Hx
open PySem PySem.Spec PyProof.Rows L2
/-- an empty set as it is laid -/
abbrev sO (w : World) : Obj := { cls := .type "set", dict := none, data := .set #[] 0 (.fresh 0 0 (!w.params.followText "set-order")) }
abbrev h1 (w : World) (h : Heap) : Heap := h.push (sO w)
section
variable {P : Program} {w : World} {A : Around} {E : Value → Shared → Prop} {s : Shared}
theorem set_of_list {l : Addr} {xs : Array Value} (ns : List Int) {Q : Value → Shared → Prop} (nh : A.handled = none) (hl : s.heap.IsList l xs) (hx : IntsAre xs.toList ns) (few : ns.length + 1 < scanBound)
    (k : ∀ (g : Heap) (t c : Nat), SetR w g s.heap.objs.size (fun j => decide (j ∈ ns)) c → c ≤ ns.length → (∀ b o, s.heap.get? b = some o → g.get? b = some o) → Q (.ref s.heap.objs.size) { s with heap := g, toks := t }) :
    wpAny (model P w) A (call (.type "set") [.ref l]) Q E s := by
  have sz : xs.size = ns.length := by have z := IntsAre.length hx; rwa [Array.length_toList] at z
  obtain ⟨_, _, e_mro⟩ := F.called_set.mro
  have e1 := F.called_set.made; have e2 := F.called_set.sub; have e3 := F.called_set.notType; have e4 := F.called_set.canCreate
  have e5 := F.typeCall_set_1 (.ref l)
  apply wpAny_call; apply codeAny_of_tree
  show wpAny _ _ (callAny (.type "set") _) _ _ _
  apply wpAny_pure; refine ⟨Code.quiet_builtin _ (by decide +kernel), ?_⟩; apply codeAny_builtin F.entry_type_call
  rw [Around.under_plain (weight_type_call_type "set" [.ref l] []) rfl]
  repeat (any_goals (first | assumption | wp_step))
  have made := code_set_led1 (P := P) (w := w) (A := A.in1) (E := E) (s := s) (.ref l) (Q₁ := fun z t => z = .ref s.heap.objs.size ∧ t = { s with heap := h1 w s.heap }) ⟨rfl, rfl⟩
  refine codeAny_mono made (fun r t hr => ?_)
  match r, hr with
  | .error _, hr => exact hr
  | .ok .next, hr => exact hr.elim
  | .ok .brk, hr => exact hr.elim
  | .ok .cont, hr => exact hr.elim
  | .ok (.ret z), hr =>
    obtain ⟨rfl, rfl⟩ := hr
    have new : (h1 w s.heap).get? s.heap.objs.size = some (sO w) := Heap.get?_push_size _ rfl
    have ty : Shared.TypeIs { s with heap := h1 w s.heap } (.ref s.heap.objs.size) "set" := ⟨_, new, rfl⟩
    have i1 := F.called_set.init.lookup
    have i2 := F.called_set.init.bind (.ref s.heap.objs.size)
    repeat (any_goals (first | assumption | wp_step))
    apply codeAny_mono (codeAny_call_builtin (R := wants (fun z t => z = .none ∧ ∃ (g : Heap) (n c : Nat), t = { s with heap := g, toks := n } ∧ SetR w g s.heap.objs.size (fun j => decide (j ∈ ns)) c ∧ c ≤ ns.length ∧ ∀ b o, s.heap.get? b = some o → g.get? b = some o) E) F.called_set.init.plain F.entry_set_init (check_set_init_1 ty ?_))
    · intro r t hr
      match r, hr with
      | .error _, hr => exact hr
      | .ok .next, hr => exact hr.elim
      | .ok .brk, hr => exact hr.elim
      | .ok .cont, hr => exact hr.elim
      | .ok (.ret z), hr =>
        obtain ⟨rfl, g, n, c, rfl, q1, q2, q3⟩ := hr
        repeat (any_goals (first | assumption | wp_step))
        exact k _ _ _ q1 q2 q3
    · obtain ⟨ob, e6, e7, m, e8⟩ := hl
      obtain ⟨c0, d0, dat, sl⟩ := ob
      simp only at e7 e8
      subst e7; subst e8
      have old := Heap.get?_push_of_some (sO w) e6
      have s1 := F.sub_list_set; have s2 := F.sub_list_frozenset
      have s3 : (Value.type "list" == Value.type "dict") = false := by decide
      have isl : (h1 w s.heap).IsList l xs := ⟨_, old, rfl, m, rfl⟩
      unfold Builtin.«set.__init__» noKeywords Builtin.Frozenset.updateFrom
      generalize pI : pyIter = PI
      wp_walk
      subst pI
      refine wpAny_pyIter_list isl ?_
      refine wpAny_bind (wpAny_runValue ?_)
      have lt : l < s.heap.objs.size := Heap.lt_size e6
      have z1 : (h1 w s.heap).objs.size = s.heap.objs.size + 1 := Heap.size_push ..
      have n1 : l ≠ (h1 w s.heap).objs.size := by rw [z1]; exact Nat.ne_of_lt (Nat.lt_succ_of_lt lt)
      have n2 : s.heap.objs.size ∉ [(h1 w s.heap).objs.size, l] := by
        intro q
        rcases List.mem_cons.mp q with q | q
        · rw [z1] at q; exact absurd q (Nat.ne_of_lt (Nat.lt_succ_self _))
        · exact absurd (List.mem_singleton.mp q).symm (Nat.ne_of_lt lt)
      have nh3 : A.in1.in1.in1.handled = none := by simp [nh]
      have val : ∀ (i : Nat) (v : Value), xs[i]? = some v → ∃ z t, ns[i]? = some z ∧ v = .int z t := fun i v q => by
        have lti : i < ns.length := sz ▸ (Array.getElem?_eq_some_iff.mp q).1
        obtain ⟨t, e⟩ := PyProof.Rows.IntsAre.int_at hx i v (by rwa [Array.getElem?_toList])
        refine ⟨_, t, List.getElem?_eq_getElem lti, e.trans ?_⟩
        simp [List.getD_eq_getElem?_getD, List.getElem?_eq_getElem lti]
      refine set_update_ints ((Walks.list nh3 _ l n1 xs).toS) s.heap.objs.size n2 ns sz few val (xs.size - 0) 0 _ (by omega) (Nat.zero_le _) ⟨⟨_, Heap.get?_push_size _ rfl, rfl, rfl⟩, isl.push _⟩ ⟨0, Nat.le_refl 0, setR_new_at (Heap.get?_push_of_some _ new)⟩ ?_
      intro t c mv q1 q2
      obtain ⟨g, gn, dr, tk, os⟩ := t
      obtain rfl : gn = s.gens := mv.gens
      obtain rfl : dr = s.drawn := mv.drawn
      obtain rfl : os = s.os := mv.os
      show wpAny _ _ _ _ _ _
      apply wpAny_pure
      show wpAny _ _ (ret Value.none) _ _ _
      rw [sz] at q1
      apply wpAny_pure
      refine ⟨rfl, g, tk, c, rfl, q2, q1, fun b o e => ?_⟩
      have b0 : b < s.heap.objs.size := Heap.lt_size e
      refine mv.heap b o (fun q => ?_) (Heap.get?_push_of_some _ (Heap.get?_push_of_some _ e))
      rcases List.mem_cons.mp q with q | q
      · exact Nat.ne_of_lt b0 q
      · have q := List.mem_singleton.mp q
        rw [z1] at q
        exact Nat.ne_of_lt (Nat.lt_succ_of_lt b0) q
end
/-- set(xs) -/
def rSetL (K : PySem.W.Frag) (w : World) : List V → Hp → VK → Prop := fun vs H Q => ∃ (a : Addr) (ns : List Int), vs = [.ref a] ∧ SqL K H a (ns.map V.int) ∧ ns.length ≤ 1000 ∧ ∀ (p : Addr) (c : Nat), c ≤ ns.length → H p = none → Q (.ref p) (upd H p (SetO w p (fun j => decide (j ∈ ns)) c))
theorem cr_setL {X : Cx} (hc : X.calm = true) : CallR X (.type "set") (rSetL X.K X.w) := by
  intro pins s σ H vs us Q I r h
  obtain ⟨a, ns, rfl, hs, hl, q⟩ := h
  obtain ⟨its, rv, pl, _⟩ := I.list hs
  rw [Vals.ref1 r]
  refine set_of_list ns (I.ok.hd hc) pl.isList (by simpa using ints_of_vals rv) (by unfold scanBound; omega) fun g t c R hcn k => ?_
  refine ⟨.ref _, upd H s.heap.objs.size (SetO X.w s.heap.objs.size (fun j => decide (j ∈ ns)) c), I.laid (t' := t) (fun b u e => k b u e) (Nat.le_refl _) (setO_new R), rfl, q _ c hcn (I.hok.fresh (Nat.le_refl _))⟩
end Hx

set_option Elab.async false
set_option linter.all false
set_option maxRecDepth 100000
set_option maxHeartbeats 4000000
/-! HsKD: tables of the module: dicts with str keys whose values are flat or tuples of flats; a set out of a tuple of ints; zip of two tuples -/
namespace Hx
open PySem PySem.Spec PyProof.Rows L2 RZ
def tbF : PyData → Value → Bool
  | .int i, .int j _ => decide (i = j)
  | .str x, .str y _ => decide (x = y)
  | .none, .none => true
  | _, _ => false
def tbAll : List PyData → List Value → Bool
  | [], [] => true
  | d :: ds, v :: vs => tbF d v && tbAll ds vs
  | _, _ => false
def tbT (K : PySem.W.Frag) (ds : List PyData) (a : Addr) : Bool := match K.lookup a with
  | some ⟨.type n, _, .seq its _, _⟩ => decide (n = "tuple") && decide (its.size ≤ 1000) && tbAll ds its.toList
  | _ => false
def tbV (K : PySem.W.Frag) : PyData → Value → Bool
  | .tuple ds, .ref a => tbT K ds a
  | d, v => tbF d v
theorem tbF_ok {K : PySem.W.Frag} : ∀ {d : PyData} {u : Value}, tbF d u = true → ∃ v : V, RelV v u ∧ ∀ M : Hp, Dp K M v d
  | .int i, .int j t, h => by
    obtain rfl : i = j := of_decide_eq_true h
    exact ⟨.int i, ⟨t, rfl⟩, fun _ => .int i⟩
  | .str x, .str y t, h => by
    obtain rfl : x = y := of_decide_eq_true h
    exact ⟨.str x, ⟨t, rfl⟩, fun _ => .str x⟩
  | .none, .none, _ => ⟨.non, rfl, fun _ => .non⟩
theorem tbAll_ok {K : PySem.W.Frag} : ∀ {ds : List PyData} {us : List Value}, tbAll ds us = true → ∃ vs : List V, Vals vs us ∧ ∀ M : Hp, DpAll K M vs ds
  | [], [], _ => ⟨[], .nil, fun _ => .nil⟩
  | d :: ds, u :: us, h => by
    have h : (tbF d u && tbAll ds us) = true := h
    rw [Bool.and_eq_true] at h
    obtain ⟨v, r, k⟩ := tbF_ok (K := K) h.1
    obtain ⟨vs, rs, ks⟩ := tbAll_ok h.2
    exact ⟨v :: vs, .cons r rs, fun M => .cons (k M) (ks M)⟩
  | [], _ :: _, h => nomatch h
  | _ :: _, [], h => nomatch h
theorem tbT_ok {K : PySem.W.Frag} {ds : List PyData} {a : Addr} (h : tbT K ds a = true) : ∀ M : Hp, Dp K M (.ref a) (.tuple ds) := by
  unfold tbT at h
  split at h
  · rename_i n d0 its m sl e
    rw [Bool.and_eq_true, Bool.and_eq_true] at h
    obtain rfl := of_decide_eq_true h.1.1
    obtain ⟨vs, rs, ks⟩ := tbAll_ok (K := K) h.2
    exact fun M => .tup (.inr ⟨_, its, m, e, rfl, rfl, size_le (Nat.le_trans (of_decide_eq_true h.1.2) (by decide)), rs⟩) (ks M)
  · exact nomatch h
theorem tbV_ok {K : PySem.W.Frag} {d : PyData} {u : Value} (h : tbV K d u = true) : ∃ v : V, RelV v u ∧ ∀ M : Hp, Dp K M v d := by
  unfold tbV at h
  split at h
  · exact ⟨.ref _, rfl, tbT_ok h⟩
  · exact tbF_ok h
def tbOk (K : PySem.W.Frag) (D : Addr) (t : List (Str × PyData)) : Bool := t.all fun p => match PySem.W.nsIn K D p.1 with
  | some (some u) => tbV K p.2 u
  | _ => false
def tbNo (K : PySem.W.Frag) (D : Addr) (xs : List Str) : Bool := xs.all fun x => match PySem.W.nsIn K D x with
  | some none => true
  | _ => false
def tbLit : List DictEntry → List Str → Bool
  | [], [] => true
  | e :: es, x :: xs => e.key.isStr x && tbLit es xs
  | _, _ => false
/-- a table of the module at D: what it holds, what it does not -/
structure KTab (K : PySem.W.Frag) (w : World) (D : Addr) (t : List (Str × PyData)) (no : List Str) : Prop where
  kd : ∃ es n, KDict K w D es n
  ok : tbOk K D t = true
  no : tbNo K D no = true
theorem KTab.find {K : PySem.W.Frag} {w : World} {D : Addr} {t : List (Str × PyData)} {no : List Str} (T : KTab K w D t no) {z : Str} {d : PyData} (h : (z, d) ∈ t) :
    ∃ u v, PySem.W.nsIn K D z = some (some u) ∧ RelV v u ∧ ∀ M : Hp, Dp K M v d := by
  have h1 := List.all_eq_true.mp T.ok _ h
  split at h1
  · rename_i u e
    obtain ⟨v, r, k⟩ := tbV_ok h1
    exact ⟨u, v, e, r, k⟩
  · exact nomatch h1
theorem KTab.miss {K : PySem.W.Frag} {w : World} {D : Addr} {t : List (Str × PyData)} {no : List Str} (T : KTab K w D t no) {z : Str} (h : z ∈ no) : PySem.W.nsIn K D z = some none := by
  have h1 := List.all_eq_true.mp T.no _ h
  split at h1
  · rename_i e
    exact e
  · exact nomatch h1
section
variable {X : Cx} {D : Addr} {t : List (Str × PyData)} {no : List Str}
def rIxT0 (K : PySem.W.Frag) (D : Addr) (t : List (Str × PyData)) : R2 := fun x y H Q => ∃ (z : Str) (d : PyData), x = .ref D ∧ y = .str z ∧ (z, d) ∈ t ∧ ∀ v, (∀ M : Hp, Dp K M v d) → Q v H
theorem ix_tab (T : KTab X.K X.w D t no) : IxR X (rIxT0 X.K D t) := by
  intro value slice pins s σ H x y v u Q I rx ry h hs
  obtain ⟨z, d, rfl, rfl, m, q⟩ := h
  obtain ⟨u0, v0, e, r, k⟩ := T.find m
  obtain ⟨es, n, kd⟩ := T.kd
  exact ix_kdict value slice pins s σ H _ _ v u Q I rx ry ⟨_, _, v0, rfl, rfl, ⟨es, n, u0, kd.at_, kd.lit, e, r⟩, q v0 k⟩ hs
def rInT0 (D : Addr) (t : List (Str × PyData)) (no : List Str) : R2 := fun x y H Q => ∃ z : Str, x = .str z ∧ y = .ref D ∧ (((∃ d, (z, d) ∈ t) ∧ Q (.bl true) H) ∨ (z ∈ no ∧ Q (.bl false) H))
theorem op_in_tab (T : KTab X.K X.w D t no) : OpR X (compareOp .In) (rInT0 D t no) := by
  intro pins s σ H x y v u Q I rx ry h
  obtain ⟨z, rfl, rfl, h⟩ := h
  obtain ⟨es, n, kd⟩ := T.kd
  rcases h with ⟨⟨d, m⟩, q⟩ | ⟨m, q⟩
  · obtain ⟨u0, v0, e, r, k⟩ := T.find m
    exact op_in_kd kd pins s σ H _ _ v u Q I rx ry ⟨z, _, rfl, rfl, e, q⟩
  · exact op_in_kd kd pins s σ H _ _ v u Q I rx ry ⟨z, _, rfl, rfl, T.miss m, q⟩
/-- d.get(k, x) -/
def tTabGet (K : PySem.W.Frag) (D : Addr) (t : List (Str × PyData)) (no : List Str) (td ty tx : TE) : TE := fun σ H Q => td σ H fun x H1 => x = .ref D ∧ ty σ H1 fun y H2 => tx σ H2 fun z H3 => ∃ s : Str, y = .str s ∧
  ((∃ d, (s, d) ∈ t ∧ ∀ v, (∀ M : Hp, Dp K M v d) → Q v H3) ∨ (s ∈ no ∧ Q z H3))
theorem pe_tabGet {o e f : Expr} {apos cpos : Pos} {td ty tx : TE} (T : KTab X.K X.w D t no) (ho : PE X o td) (he : PE X e ty) (hf : PE X f tx) (m : M2 X o "get" apos e f cpos) : PE X (.Call (.Attribute o "get" apos) [e, f] [] cpos) (tTabGet X.K D t no td ty tx) := by
  obtain ⟨es, n, kd⟩ := T.kd
  refine ⟨fun pins s σ H Q I h => ?_⟩
  refine wpAny_Call_method m.base m.few m.line PySem.F.plainAttrs_dict PySem.F.slot_dict_get PySem.F.type_dict_get (thn (ho.run pins s σ H _ I h) fun u s1 ⟨x, H1, I1, rx, ex, q1⟩ => ?_)
  subst ex
  obtain rfl : u = Value.ref D := rx
  have hm1 := PySem.W.mapOf_K (prog := X.prog) (w := X.w) I1.kIn kd.at_ kd.lit
  have k1 := I1.kIn D _ kd.at_
  refine ⟨hm1.typeIs, ?_, ?_⟩
  · intro b q
    cases q
    exact ⟨_, k1, rfl⟩
  rw [m.trees]
  refine Calls.callWith_builtin rfl (Calls.evalArgs_plain (Calls.spliced_cons (thn (he.run pins s1 σ H1 _ I1 q1) fun kv s2 ⟨y, H2, I2, ry, q2⟩ =>
    Calls.spliced_cons (thn (hf.run pins s2 σ H2 _ I2 q2) fun fv s3 ⟨z, H3, I3, rz, s, ey, q3⟩ => Calls.spliced_nil ?_))))
  subst ey
  obtain ⟨t0, rfl⟩ := ry
  have hm3 := PySem.W.mapOf_K (prog := X.prog) (w := X.w) I3.kIn kd.at_ kd.lit
  rcases q3 with ⟨d, md, q⟩ | ⟨mn, q⟩
  · obtain ⟨u0, v0, e0, r0, k0⟩ := T.find md
    refine call_meetsIn PySem.F.slot_dict_get hm3.typeIs PySem.F.entry_dict_get (PySem.F.args_dict_get_3 _ _ _) (meets_dict_get_default (strKind X.prog X.w) (k := s) D (strKind_is X.prog X.w s t0) kd.low fv) ⟨_, hm3, v0, H3, I3.tok _, ?_, q v0 k0⟩
    rw [PySem.W.find_K kd.at_ e0]
    exact r0
  · refine call_meetsIn PySem.F.slot_dict_get hm3.typeIs PySem.F.entry_dict_get (PySem.F.args_dict_get_3 _ _ _) (meets_dict_get_default (strKind X.prog X.w) (k := s) D (strKind_is X.prog X.w s t0) kd.low fv) ⟨_, hm3, z, H3, I3.tok _, ?_, q⟩
    rw [PySem.W.find_K kd.at_ (T.miss mn)]
    exact rz
/-- set(t), a tuple of ints -/
def rSetTI (K : PySem.W.Frag) (w : World) : List V → Hp → VK → Prop := fun vs H Q => ∃ (a : Addr) (ns : List Int), vs = [.ref a] ∧ SqT K H a (ns.map V.int) ∧ ns.length ≤ 1000 ∧ ∀ (p : Addr) (c : Nat), c ≤ ns.length → H p = none → Q (.ref p) (upd H p (SetO w p (fun j => decide (j ∈ ns)) c))
theorem cr_setTI (hc : X.calm = true) : CallR X (.type "set") (rSetTI X.K X.w) := by
  intro pins s σ H vs us Q I r h
  obtain ⟨a, ns, rfl, hs, hl, q⟩ := h
  obtain ⟨its, rv, pl, _⟩ := I.tuple hs
  rw [Vals.ref1 r]
  refine call_set_tupI ns (I.ok.hd hc) pl (by simpa using ints_of_vals rv) (by unfold scanBound; omega) fun g t c R hcn k => ?_
  refine ⟨.ref _, upd H s.heap.objs.size (SetO X.w s.heap.objs.size (fun j => decide (j ∈ ns)) c), I.laid (t' := t) (fun b u e => k b u e) (Nat.le_refl _) (setO_new R), rfl, q _ c hcn (I.hok.fresh (Nat.le_refl _))⟩
end
theorem tyx_tup {K : PySem.W.Frag} {H : Hp} {a : Addr} {xs : List V} (h : SqT K H a xs) : TyX K H (.ref a) (.type "tuple") := by
  rcases h with (h | ⟨o, h⟩) | ⟨o, its, n, l, c, _⟩
  · exact .base (.tup h)
  · exact .fTuple h
  · exact .kTuple l c
theorem walk_zipT {K : PySem.W.Frag} {a b : Addr} {xs ys : List V} {n : Nat} (hn : n = min xs.length ys.length) : Walk (ItzT K a b) n (fun H => SqT K H a xs ∧ SqT K H b ys) (YPair (fun i => xs[i]?) (fun i => ys[i]?)) := by
  subst hn
  refine ⟨fun j _ hj g => ?_, fun _ g => ⟨xs, ys, g.1, g.2, by omega⟩, fun j M v M' _ g y => ?_⟩
  · have l1 : j < xs.length := by omega
    have l2 : j < ys.length := by omega
    exact ⟨xs, ys, xs[j], ys[j], g.1, g.2, by simp [l1], by simp [l2]⟩
  · obtain ⟨T, x, z, m1, m2, m3, m4, m5⟩ := y
    exact ⟨T, x, z, m1, m2, m3, m4 xs g.1, m5 ys g.2⟩
end Hx

set_option Elab.async false
set_option linter.all false
set_option maxRecDepth 100000
set_option maxHeartbeats 4000000
namespace Hx
open PySem PySem.Spec PyProof.Rows L2
/-! ### a list or a tuple -/
def Sq (K : PySem.W.Frag) (H : Hp) (a : Addr) (xs : List V) : Prop := H a = some (.lst xs) ∨ H a = some (.tup xs)
theorem Sq.same {K : PySem.W.Frag} {H H' : Hp} {a : Addr} {xs : List V} (s : Same H H') (h : Sq K H a xs) : Sq K H' a xs := h.imp (s _ _) (s _ _)
theorem Sq.or {K : PySem.W.Frag} {H : Hp} {a : Addr} {xs : List V} (h : Sq K H a xs) : SqL K H a xs ∨ SqT K H a xs := h.imp SqL.of SqT.of
def rIxB (K : PySem.W.Frag) : R2 := fun x y H Q => ∃ p xs i v, x = .ref p ∧ y = .int i ∧ Sq K H p xs ∧ atI xs i = some v ∧ Q v H
theorem ix_both {X : Cx} : IxR X (rIxB X.K) := by
  intro value slice pins s σ H x y v u Q I rx ry h hs
  obtain ⟨p, xs, i, z, rfl, rfl, hq, he, q⟩ := h
  rcases hq with hq | hq
  · exact ix_list value slice pins s σ H _ _ v u Q I rx ry ⟨p, xs, i, z, rfl, rfl, SqL.of hq, he, q⟩ hs
  · exact ix_tup value slice pins s σ H _ _ v u Q I rx ry ⟨p, xs, i, z, rfl, rfl, SqT.of hq, he, q⟩ hs
/-! ### texts of a few bools -/
theorem shown_bools (bs : List Bool) (hl : bs.length ≤ 400) : (PyData.list (bs.map PyData.bool)).showable = true ∧ (PyData.list (bs.map PyData.bool)).hasDict = false ∧ (PyData.list (bs.map PyData.bool)).depth ≤ 64 ∧ (PyData.list (bs.map PyData.bool)).shown.length ≤ sizeLine := by
  have h1 : ∀ bs : List Bool, PyData.showableAll (bs.map PyData.bool) = true := fun bs => by
    induction bs with
    | nil => rfl
    | cons b r ih => rw [List.map_cons, PyData.showableAll, PyData.showable, ih] <;> rfl
  have h2 : ∀ bs : List Bool, PyData.hasDictAll (bs.map PyData.bool) = false := fun bs => by
    induction bs with
    | nil => rfl
    | cons b r ih => rw [List.map_cons, PyData.hasDictAll, PyData.hasDict, ih] <;> rfl
  have h3 : ∀ bs : List Bool, PyData.depthAll (bs.map PyData.bool) = 0 := fun bs => by
    induction bs with
    | nil => simp [PyData.depthAll]
    | cons b r ih => simp [PyData.depthAll, PyData.depth, ih]
  have h4 : ∀ bs : List Bool, piled (PyData.shownAll (bs.map PyData.bool)) ≤ 22 * bs.length := fun bs => by
    induction bs with
    | nil => exact Nat.le_refl _
    | cons b r ih =>
      have e : (PyData.shown (.bool b)).length ≤ 5 := by cases b <;> decide
      rw [List.map_cons, PyData.shownAll, piled_cons, List.length_cons]
      omega
  refine ⟨by rw [PyData.showable]; exact h1 bs, by rw [PyData.hasDict]; exact h2 bs, by rw [PyData.depth, h3]; decide, ?_⟩
  rw [PyData.shown]
  have a := text_le (PyData.shownAll (bs.map PyData.bool)) 0 "["
  have b := h4 bs
  show (textFrom 0 "[" _ ++ "]").length ≤ _
  rw [strLen_append, sizeLine_eq]
  have e : (("[" : String) : Str).length = 1 := rfl
  have e2 : (("]" : String) : Str).length = 1 := rfl
  rw [e] at a
  rw [e2]
  omega
theorem dp_bools {K : PySem.W.Frag} {H : Hp} : ∀ bs : List Bool, DpAll K H (bs.map V.bl) (bs.map PyData.bool)
  | [] => .nil
  | b :: r => .cons (.bl b) (dp_bools r)
end Hx

set_option Elab.async false
set_option linter.all false
set_option maxRecDepth 100000
set_option maxHeartbeats 4000000
/-! raise X() without arguments; repr of an int or None; the sum of a tuple; calls by keywords within a try; a loop over zip with one name as its target -/
namespace Hx
open PySem PySem.Spec PyProof.Rows L2 SkE
section
variable {X : Cx} {pos : Pos}
/-- X(), X an own exception class without own __init__ -/
theorem pmk_own0 {C : Addr} {bmB : List Value} {B newId initId : String} {x : Str} {p : Pos} (F : ExcBaseFacts B newId initId bmB) (q : PySem.W.excIn X.K C bmB newId = true) (gC : X.mg x = some (.ref C))
    (kC : PySem.W.keepIn X.K (.ref C) = true) (r : Raises X (.ref C)) (hg : Gl X x) (hdb : (x == ("__debug__" : Str)) = false := by decide) :
    PMk X (.Call (.Name x p) [] [] pos) (fun _ H Q => Q (.ref C) none H) := by
  intro pins s σ H Q I h
  refine wpAny_Call_Name_kw (ld_glob I hg gC ?_ hdb)
  refine PySem.W.callWith_K0 I.kIn kC ?_
  show wpAny _ _ (call (.ref C) []) _ _ _
  obtain ⟨bm, N, nm, qn, bs, hdct, sn, sub, ab, col, dd, k0, k1, k2, k3, k5, mN, hC, hN, hni, T⟩ := exc_obj I.kIn q
  refine wpAny_call_exc_subT F T hC hN hni (fun h' e hm => ?_) (Nat.zero_le _)
  exact mk_of I hm r h (I.hok.gone hm.new)
/-- repr of an int, of None -/
def rRepIO : List V → Hp → VK → Prop := fun xs H Q => (∃ i : Int, xs = [.int i] ∧ i.natAbs.log2 < 1920 ∧ Q (.str (toString i)) H) ∨ (xs = [.non] ∧ Q (.str "None") H)
theorem call_repr_io : CallR X (.builtin "repr") rRepIO := by
  intro pins s σ H xs us Q I r h
  rcases h with h | ⟨rfl, q⟩
  · exact call_repr_int pins s σ H xs us Q I r h
  · cases r with
    | cons ru rn =>
      cases rn
      cases ru
      exact PySem.P.repr_of_none ⟨.str _, H, I.tok _, ⟨_, rfl⟩, q⟩
/-- {k: v, ..} with keys that are known -/
def tDispK (ks : List Key) (trs : List (TE × TE)) : TE := fun σ H Q => ∀ p, H p = none → tPairs trs σ (upd H p (.dK [])) fun ps H2 => H2 p = some (.dK []) ∧ ps.map Prod.fst = ks.map kV ∧ Q (.ref p) (upd H2 p (.dK (mergeK [] (ks.zip (ps.map Prod.snd)))))
theorem zip_keys : ∀ {ks : List Key} {ps : List (V × V)}, ps.map Prod.fst = ks.map kV → ps = (ks.zip (ps.map Prod.snd)).map fun kv => (kV kv.1, kv.2)
  | [], [], _ => rfl
  | [], _ :: _, h => by simp at h
  | _ :: _, [], h => by simp at h
  | k :: ks, p :: ps, h => by
    simp only [List.map_cons, List.cons.injEq] at h
    simp only [List.map_cons, List.zip_cons_cons, List.cons.injEq]
    exact ⟨by rw [← h.1], zip_keys h.2⟩
theorem pe_dispK {ks : List Key} {keys : List (Option Expr)} {values : List Expr} {trs : List (TE × TE)} (h : PPs X pos keys values trs) (hall : keys.all (·.isSome) = true) (hl : keys.length = values.length) (h0 : keys ≠ [])
    (h15 : keys.length ≤ 15) (hk : ks.length ≤ 15) : PE X (.Dict keys values pos) (tDispK ks trs) := by
  refine ⟨fun pins s σ H Q I q => ?_⟩
  have hn := I.hok.fresh (Nat.le_refl s.heap.objs.size)
  have I1 := I.laid (a := s.heap.objs.size) (o := .dK []) (h' := s.heap.push { cls := .type "dict", data := .dict #[] }) (t' := s.toks) (fun _ _ q => Heap.get?_push_of_some _ q) (Nat.le_refl _) (dk_empty s.heap I.big)
  refine wpAny_Dict_walk (knd := mixKind X.prog X.w) hall hl h0 h15 (thn (h.run pins _ σ _ _ I1 (q _ hn)) fun ws s2 ⟨ps, H2, I2, rel, e, ek, q2⟩ => ?_)
  have ep := zip_keys ek
  have lk : (ks.zip (ps.map Prod.snd)).length ≤ 15 := by rw [List.length_zip]; omega
  generalize ks.zip (ps.map Prod.snd) = kvs at ep lk q2
  subst ep
  obtain ⟨rs, c, rk⟩ := carries_of (P := X.prog) (w := X.w) rel
  obtain ⟨z, hd, vs0, r0, dd⟩ := dk_of I2.hok e
  cases r0
  refine ⟨rs, c, dd, fun h' dd' hs => ⟨.ref s.heap.objs.size, _, ?_, rfl, q2⟩⟩
  have hz : (mergeK [] kvs).length ≤ sizeLine := by
    have h1 := length_mergeK kvs []
    rw [List.length_nil] at h1
    rw [sizeLine_eq]; omega
  have he : ∃ q, h'.get? s.heap.objs.size = some q := let ⟨q, _, _, hq, _⟩ := dd'; ⟨q, hq⟩
  exact d_write I2 (by rw [e]; exact True.intro) hs he (dk_new hz hd (rk.merge .nil) dd')
theorem DGet.ks {H : Hp} {a : Addr} {kvs : List (Key × V)} {x : Str} {r : Option V} (e : H a = some (.dK kvs)) (h : valV kvs (Sum.inr x) = r) : DGet H a (.str x) r := h ▸ DGet.k (k := Sum.inr x) e
/-- in a display; in a tuple of the module's -/
theorem op_inT : OpR X (compareOp .In) (fun x y H Q => ∃ p xs, y = .ref p ∧ H p = some (.tup xs) ∧ flatV x = true ∧ xs.all flatV = true ∧ Q (.bl (inV x xs)) H) :=
  fun pins s σ H x y v u Q I rx ry ⟨p, xs, e, h, q⟩ => op_in_seq pins s σ H x y v u Q I rx ry ⟨p, xs, e, .inr (SqT.of h), q⟩
theorem op_inL : OpR X (compareOp .In) (fun x y H Q => ∃ p xs, y = .ref p ∧ H p = some (.lst xs) ∧ flatV x = true ∧ xs.all flatV = true ∧ Q (.bl (inV x xs)) H) :=
  fun pins s σ H x y v u Q I rx ry ⟨p, xs, e, h, q⟩ => op_in_seq pins s σ H x y v u Q I rx ry ⟨p, xs, e, .inl (SqL.of h), q⟩
theorem op_notInK {D : Addr} {xs : List V} (h : ∀ H : Hp, SqT X.K H D xs) (hf : xs.all flatV = true) : OpR X (compareOp .NotIn) (fun x y H Q => y = .ref D ∧ flatV x = true ∧ Q (.bl (!inV x xs)) H) :=
  fun pins s σ H x y v u Q I rx ry ⟨e, h1, q⟩ => op_notIn_seq pins s σ H x y v u Q I rx ry ⟨D, xs, e, .inr (h H), h1, hf, q⟩
theorem op_inK {D : Addr} {xs : List V} (h : ∀ H : Hp, SqT X.K H D xs) (hf : xs.all flatV = true) : OpR X (compareOp .In) (fun x y H Q => y = .ref D ∧ flatV x = true ∧ Q (.bl (inV x xs)) H) :=
  fun pins s σ H x y v u Q I rx ry ⟨e, h1, q⟩ => op_in_seq pins s σ H x y v u Q I rx ry ⟨D, xs, e, .inr (h H), h1, hf, q⟩
/-- the same, said of the value -/
def RepOk (v : V) : Prop := v = .non ∨ ∃ i : Int, v = .int i ∧ i.natAbs.log2 < 1920
def repT : V → Str
  | .int i => toString i
  | _ => "None"
theorem call_repr_v : CallR X (.builtin "repr") (fun xs H Q => ∃ v : V, xs = [v] ∧ RepOk v ∧ Q (.str (repT v)) H) := by
  intro pins s σ H xs us Q I r h
  obtain ⟨v, rfl, hv, q⟩ := h
  rcases hv with rfl | ⟨i, rfl, hi⟩
  · exact call_repr_io pins s σ H _ us Q I r (.inr ⟨rfl, q⟩)
  · exact call_repr_io pins s σ H _ us Q I r (.inl ⟨i, rfl, hi, q⟩)
/-- the sum of a tuple of ints -/
def rSumT (K : PySem.W.Frag) : List V → Hp → VK → Prop := fun vs H Q => ∃ (a : Addr) (ns : List Int), vs = [V.ref a] ∧ SqT K H a (ns.map V.int) ∧ Q (.int ns.sum) H
theorem cr_sumT (hc : X.calm = true) : CallR X (.builtin "sum") (rSumT X.K) := by
  intro pins s σ H vs us Q I r h
  obtain ⟨a, ns, rfl, hs, q⟩ := h
  obtain ⟨its, rv, ht, _⟩ := I.tuple hs
  rw [Vals.ref1 r]
  have hi := rv.ints
  obtain ⟨xs, hx⟩ := hi.allInts.items
  have ht' : s.heap.IsTuple a its.toArray := ht
  have hn : numsOf its.toArray.toList = ns := by rw [show its.toArray.toList = its from rfl, hi.numsOf]
  rw [hx] at ht' hn
  rw [nums_intItems] at hn
  refine PySem.W.ktm_sumG (I.ok.hd hc) ht' fun h' tk t' hk => ?_
  rw [preSum_eq, List.take_of_length_le (by simp), hn]
  exact ⟨.int _, H, I.kept hk, ⟨_, rfl⟩, q⟩
end
section
variable {X : Cx}
/-- for NAME in zip(e, e2) of two lists: the pair that came first, T0, has to stay -/
def tForZN (K : PySem.W.Frag) (ta : TA) (g : TG) (tb : TS) : TS := fun D σ H => ta σ H fun vs H1 => ∃ a b xs ys, vs = [.ref a, .ref b] ∧ SqL K H1 a xs ∧ SqL K H1 b ys ∧ Stop (∀ T0 : Addr, H1 T0 = none → ∃ W : Nat → Nat → L2.St → Hp → Prop, (∃ m, W 0 m σ H1) ∧ ∀ i m σ H, W i m σ H →
  (0 < i → ∃ u, H T0 = some u) ∧ (((Itz K a b).stop i H ∧ D.nx σ H) ∨ ((Itz K a b).go i H ∧ ∃ N : L2.St → Hp → Prop, (∀ σ' H', N σ' H' → ∃ m', m' < m ∧ W (i + 1) m' σ' H') ∧ ∀ x H', (Itz K a b).yld i H x H' → (i = 0 → x = .ref T0) → g x σ H' fun σ2 H2 => tb { D with nx := N, ct := N, bk := D.nx } σ2 H2)))
/-- the objects of the iterator at turn i -/
def ZnAt (a b z TI TO i1 i2 T0 : Addr) (i : Nat) (h : Heap) : Prop := IsPair h TI (.ref i1) (.ref i2) ∧ (∃ x y, IsPair h TO x y) ∧ h.IsListIter i1 a i ∧ h.IsListIter i2 b i ∧ ((i = 0 ∧ IsZip h z TI TO .none) ∨ (0 < i ∧ ∃ f, PySem.IsZipHeld h z TI TO T0 f))
theorem ZnAt.objs {a b z TI TO i1 i2 T0 : Addr} {i : Nat} {h : Heap} (st : ZnAt a b z TI TO i1 i2 T0 i h) : ∀ c ∈ [z, TI, TO, i1, i2], ∃ o, h.get? c = some o ∧ ∀ v, o.data ≠ .cell v := fun c hc => by
  obtain ⟨hTI, ⟨x, y, hTO⟩, ⟨o1, e1, _, d1⟩, ⟨o2, e2, _, d2⟩, hz⟩ := st
  have hz' : ∃ o, h.get? z = some o ∧ ∀ v, o.data ≠ .cell v := by
    rcases hz with ⟨_, hz⟩ | ⟨_, f, hz⟩
    · exact ⟨_, hz, fun v q => nomatch q⟩
    · exact ⟨_, hz, fun v q => nomatch q⟩
  have e' : c = z ∨ c = TI ∨ c = TO ∨ c = i1 ∨ c = i2 := by simpa using hc
  rcases e' with q | q | q | q | q
  · rw [q]; exact hz'
  · rw [q]; exact ⟨_, hTI, fun v q => nomatch q⟩
  · rw [q]; exact ⟨_, hTO, fun v q => nomatch q⟩
  · rw [q]; exact ⟨o1, e1, fun v q => by rw [d1] at q; cases q⟩
  · rw [q]; exact ⟨o2, e2, fun v q => by rw [d2] at q; cases q⟩
theorem ZnAt.keep {a b z TI TO i1 i2 T0 : Addr} {i : Nat} {h h' : Heap} (st : ZnAt a b z TI TO i1 i2 T0 i h) (k : ∀ c ∈ [z, TI, TO, i1, i2], ∀ o, h.get? c = some o → h'.get? c = some o) : ZnAt a b z TI TO i1 i2 T0 i h' := by
  obtain ⟨hTI, ⟨x, y, hTO⟩, h1, h2, hz⟩ := st
  refine ⟨k TI (by simp) _ hTI, ⟨x, y, k TO (by simp) _ hTO⟩, h1.at fun o q => k i1 (by simp) o q, h2.at fun o q => k i2 (by simp) o q, ?_⟩
  rcases hz with ⟨e, hz⟩ | ⟨e, f, hz⟩
  · exact .inl ⟨e, k z (by simp) _ hz⟩
  · exact .inr ⟨e, f, k z (by simp) _ hz⟩
/-- the next pair -/
theorem zn_item {a b z TI TO i1 i2 T0 : Addr} (D : ZipApart z TI TO i1 i2 a b) {x : Str} {px : Pos} {E : Value → Shared → Prop} {i : Nat} {pins : List (Addr × Obj)} {s : Shared} {σ : L2.St} {H : Hp} (I : Inv X pins σ H s)
    (hf : ∀ c ∈ [z, TI, TO, i1, i2], FpOk X pins H c) (st : ZnAt a b z TI TO i1 i2 T0 i s.heap) (hs : i = 0 → s.heap.objs.size = T0) (hT : 0 < i → ∃ u, H T0 = some u) (hg : (Itz X.K a b).go i H) :
    wpAny (model X.prog X.w) X.A (pyNext (.ref z)) (fun r s1 => ∃ u, r = some u ∧ wpAny (model X.prog X.w) X.A (letOwnedTupleGo (.Name x px) (.ref z) u) (fun _ s2 => ∃ v H', Inv X pins σ H' s2 ∧ RelV v u ∧ ((Itz X.K a b).yld i H v H' ∧ (i = 0 → v = .ref T0)) ∧ ZnAt a b z TI TO i1 i2 T0 (i + 1) s2.heap ∧ ∀ c ∈ [z, TI, TO, i1, i2], H' c = none) E s1) E s := by
  obtain ⟨hTI, ⟨x0, y0, hTO⟩, h1, h2, hz⟩ := st
  obtain ⟨xs, ys, vx, vy, hqx, hqy, hx, hy⟩ := hg
  obtain ⟨its, rv, p, _⟩ := I.list hqx
  obtain ⟨its2, rv2, p2, _⟩ := I.list hqy
  obtain ⟨u, hu, ru⟩ := rv.get hx
  obtain ⟨u2, hu2, ru2⟩ := rv2.get hy
  have lt : ∀ {c : Addr}, c ∈ [z, TI, TO, i1, i2] → c < s.heap.objs.size := fun {c} hcm => by
    obtain ⟨o, e, _⟩ := (show ZnAt a b z TI TO i1 i2 T0 i s.heap from ⟨hTI, ⟨x0, y0, hTO⟩, h1, h2, hz⟩).objs c hcm
    exact Heap.lt_size e
  have fin : ∀ h' : Heap, IsPair h' s.heap.objs.size u u2 → (∀ c o, c ∉ [z, TI, TO, i1, i2] → s.heap.get? c = some o → h'.get? c = some o) →
      Inv X pins σ (upd H s.heap.objs.size (.tup [vx, vy])) { s with heap := h' } ∧ ((Itz X.K a b).yld i H (.ref s.heap.objs.size) (upd H s.heap.objs.size (.tup [vx, vy])) ∧ ∀ c ∈ [z, TI, TO, i1, i2], upd H s.heap.objs.size (.tup [vx, vy]) c = none) := fun h' hT hk => by
    have new : ObjOk X.prog X.w (upd H s.heap.objs.size (.tup [vx, vy])) h' s.heap.objs.size (.tup [vx, vy]) :=
      ⟨by show 2 ≤ sizeLine; decide, [u, u2], .cons ru (.cons ru2 .nil), ⟨_, hT, rfl, _, rfl⟩⟩
    refine ⟨I.turnedNew (t' := s.toks) (ch := [z, TI, TO, i1, i2]) (fun c o hb q => hk c o hb q) hf (Nat.le_refl _) new, ⟨_, vx, vy, rfl, I.hok.fresh (Nat.le_refl _), rfl, fun l hl => by rw [I.list_inj hl hqx]; exact hx, fun l hl => by rw [I.list_inj hl hqy]; exact hy⟩, fun c hcm => ?_⟩
    rw [upd_ne (Nat.ne_of_lt (lt hcm))]
    exact (hf c hcm).1
  rcases hz with ⟨rfl, hz⟩ | ⟨h0, f, hz⟩
  · refine wpAny_pyNext_zip_item D hz hTI hTO h1 h2 p.isList p2.isList (x := u) (y := u2) (by simpa using hu) (by simpa using hu2) fun h' z' TO' h1' h2' hT hsz hk => ?_
    obtain ⟨I1, y1, f1⟩ := fin h' hT fun c o hb q => hk c o (fun q' => hb (by simp [q'])) (fun q' => hb (by simp [q'])) (fun q' => hb (by simp [q'])) (fun q' => hb (by simp [q'])) q
    refine ⟨_, rfl, wpAny_pure ⟨.ref s.heap.objs.size, _, I1, rfl, ⟨y1, fun _ => by rw [hs rfl]⟩, ⟨hk _ _ D.TIz D.TITO D.TIi1 D.TIi2 hTI, ⟨_, _, TO'⟩, h1', h2', .inr ⟨Nat.succ_pos _, false, ?_⟩⟩, f1⟩⟩
    rw [← hs rfl]
    exact z'
  · obtain ⟨o0, ho0⟩ := hT h0
    obtain ⟨oT, hoT⟩ := objOk_get (I.hok T0 o0 ho0)
    refine PySem.wpAny_pyNext_zip_item_held D hz hoT hTI h1 h2 p.isList p2.isList (x := u) (y := u2) (by simpa using hu) (by simpa using hu2) fun h' z' h1' h2' hT hsz hk => ?_
    obtain ⟨I1, y1, f1⟩ := fin h' hT fun c o hb q => hk c o (fun q' => hb (by simp [q'])) (fun q' => hb (by simp [q'])) (fun q' => hb (by simp [q'])) q
    exact ⟨_, rfl, wpAny_pure ⟨.ref s.heap.objs.size, _, I1, rfl, ⟨y1, fun e => absurd e (by omega)⟩, ⟨hk _ _ D.TIz D.TIi1 D.TIi2 hTI, ⟨_, _, hk _ _ D.TOz D.TOi1 D.TOi2 hTO⟩, h1', h2', .inr ⟨Nat.succ_pos _, true, z'⟩⟩, f1⟩⟩
theorem zn_done {a b z TI TO i1 i2 T0 : Addr} (D : ZipApart z TI TO i1 i2 a b) {E : Value → Shared → Prop} {i : Nat} {pins : List (Addr × Obj)} {s : Shared} {σ : L2.St} {H : Hp} (hc : X.calm = true) (I : Inv X pins σ H s)
    (hf : ∀ c ∈ [z, TI, TO, i1, i2], FpOk X pins H c) (st : ZnAt a b z TI TO i1 i2 T0 i s.heap) (hT : 0 < i → ∃ u, H T0 = some u) (hg : (Itz X.K a b).stop i H) :
    wpAny (model X.prog X.w) X.A (pyNext (.ref z)) (fun r s1 => r = none ∧ Inv X pins σ H s1) E s := by
  obtain ⟨hTI, ⟨x0, y0, hTO⟩, h1, h2, hz⟩ := st
  obtain ⟨xs, ys, hqx, hqy, hend⟩ := hg
  obtain ⟨its, rv, p, _⟩ := I.list hqx
  obtain ⟨its2, rv2, p2, _⟩ := I.list hqy
  have l1 := rv.length
  have l2 := rv2.length
  have he : its.toArray[i]? = none ∨ its2.toArray[i]? = none := by
    rcases hend with q | q
    · exact .inl (by simp; omega)
    · exact .inr (by simp; omega)
  rcases hz with ⟨rfl, hz⟩ | ⟨h0, f, hz⟩
  · exact wpAny_pyNext_zip_end (I.ok.hd hc) D hz hTI hTO h1 h2 p.isList p2.isList he fun h' hk => ⟨rfl, I.turnedL (t' := s.toks) (ch := [z, TI, TO, i1, i2]) (fun c o hb q =>
      hk c o (fun q' => hb (by simp [q'])) (fun q' => hb (by simp [q'])) (fun q' => hb (by simp [q'])) (fun q' => hb (by simp [q'])) q) hf⟩
  · obtain ⟨o0, ho0⟩ := hT h0
    obtain ⟨oT, hoT⟩ := objOk_get (I.hok T0 o0 ho0)
    exact PySem.wpAny_pyNext_zip_end_held (I.ok.hd hc) D hz hoT hTI h1 h2 p.isList p2.isList he fun h' hk => ⟨rfl, I.turnedL (t' := s.toks) (ch := [z, TI, TO, i1, i2]) (fun c o hb q =>
      hk c o (fun q' => hb (by simp [q'])) (fun q' => hb (by simp [q'])) (fun q' => hb (by simp [q'])) q) hf⟩
theorem ps_forZN {x : Str} {px p pos cpos : Pos} {e e2 : Expr} {ta : TA} {g : TG} {tb : TS} {body : List Stmt} (hp : PassesOwn (model X.prog X.w) X.A X.env X.xe) (hc : X.calm = true) (hgl : Gl X "zip") (hm : X.mg "zip" = none) (ha : PA X [e, e2] ta)
    (hg : PG X (.Name x px) g) (hb : PSs X body tb)
    (hs : starEach [e, e2] X.env = (false, eval e X.env) :: starEach [e2] X.env := by rfl) (hpl : (backTo cpos (starEach [e2] X.env)).any (·.1) = false := by rfl)
    (hfs : ∀ x, foldedSetIterable (.Call (.Name "zip" p) [e, e2] [] cpos) X.env x = pure x := by intro _; rfl) : PS X (.For (.Name x px) (.Call (.Name "zip" p) [e, e2] [] cpos) body [] pos) (tForZN X.K ta g tb) := by
  refine ⟨fun pins s σ H D I h => ?_⟩
  refine wpAny_For ?_ hfs
  refine Call_ (ld_blt I hgl hm PyProof.Rows.boot_zip (PyProof.Rows.callWith_type1 (thn (ha.run cpos pins s σ H _ I h) fun us s1 ⟨vs, H1, I1, r1, q1⟩ => ?_) hs hpl))
  obtain ⟨a, b, xs, ys, ex, hqx, hqy, q⟩ := q1
  subst ex
  cases r1 with
  | cons r rr =>
    cases rr with
    | cons r' rr =>
      cases rr
      cases r
      cases r'
      obtain ⟨its, rv, p1, _⟩ := I1.list hqx
      obtain ⟨its2, rv2, p2, _⟩ := I1.list hqy
      have la : a < s1.heap.objs.size := p1.lt
      have lb : b < s1.heap.objs.size := p2.lt
      refine call_zip_2 p1.isList p2.isList fun h' hz hTI hTO h1 h2 hsz hk => wpAny_pyIter_zip hz ?_
      have I2 : Inv X pins σ H1 { s1 with heap := h' } := I1.kept (t' := s1.toks) hk
      obtain ⟨T0, hT0⟩ : ∃ T0, T0 = h'.objs.size := ⟨_, rfl⟩
      obtain ⟨W, ⟨m0, w0⟩, turn⟩ := q.h T0 (I2.hok.fresh (by rw [hT0]; exact Nat.le_refl _))
      have D := PySem.W.ktu_apart s1.heap.objs.size a b la lb
      obtain ⟨fp, hfp⟩ : ∃ fp, fp = [s1.heap.objs.size + 4, s1.heap.objs.size + 2, s1.heap.objs.size + 3, s1.heap.objs.size, s1.heap.objs.size + 1] := ⟨_, rfl⟩
      have f2 : ∀ c ∈ fp, FpOk X pins H1 c := fun c hcm => by
        rw [hfp] at hcm
        have e' : c = s1.heap.objs.size + 4 ∨ c = s1.heap.objs.size + 2 ∨ c = s1.heap.objs.size + 3 ∨ c = s1.heap.objs.size ∨ c = s1.heap.objs.size + 1 := by simpa using hcm
        have hle : s1.heap.objs.size ≤ c := by
          rcases e' with z | z | z | z | z
          · rw [z]; exact Nat.le_add_right _ _
          · rw [z]; exact Nat.le_add_right _ _
          · rw [z]; exact Nat.le_add_right _ _
          · rw [z]; exact Nat.le_refl _
          · rw [z]; exact Nat.le_add_right _ _
        exact I1.fpOk hle (I1.hok.fresh hle)
      have stat : ∀ {H' : Hp}, (∀ c ∈ fp, H' c = none) → ∀ c ∈ fp, FpOk X pins H' c := fun hn c hb => ⟨hn c hb, (f2 c hb).2⟩
      refine codeAny_forLoop_any (fun n s' => ∃ i σ' H', Inv X pins σ' H' s' ∧ ZnAt a b (s1.heap.objs.size + 4) (s1.heap.objs.size + 2) (s1.heap.objs.size + 3) s1.heap.objs.size (s1.heap.objs.size + 1) T0 i s'.heap ∧ (∀ c ∈ fp, H' c = none) ∧ W i n σ' H' ∧ (i = 0 → s'.heap.objs.size = T0)) ?_ m0
        ⟨0, σ, H1, I2, ⟨hTI, ⟨_, _, hTO⟩, h1, h2, .inl ⟨rfl, hz⟩⟩, fun c hb => (f2 c hb).1, w0, fun _ => hT0.symm⟩
      rintro n s3 ⟨i, σ3, H3, I3, st3, fr3, w3, hs0⟩
      obtain ⟨alive, tw⟩ := turn i n σ3 H3 w3
      rcases tw with ⟨stop, qn⟩ | ⟨go, N, hN, step⟩
      · refine wpAny_passesOwn hp (thn (zn_done D hc I3 (hfp ▸ stat fr3) st3 alive stop) fun r s4 ⟨hr, I4⟩ => ?_)
        subst hr
        exact wpAny_execs_nil ⟨σ3, H3, I4, qn⟩
      · refine wpAny_passesOwn hp (thn (zn_item (x := x) (px := px) D I3 (hfp ▸ stat fr3) st3 hs0 alive go) fun r s4 ⟨u, hr, h4⟩ => ?_)
        subst hr
        refine wpAny_passesOwn hp (thn h4 fun _ s5 ⟨v, H5, I5, r5, ⟨y5, y6⟩, st5, fr5⟩ => ?_)
        rw [← hfp] at fr5
        have ob5 := hfp ▸ st5.objs
        have I5' := I5.pinned (stat fr5) ob5
        refine wpAny_passesOwn hp (thn (hg.run _ s5 σ3 H5 v u _ I5' r5 (step v H5 y5 y6)) fun _ s6 ⟨σ6, H6, I6, q6⟩ => ?_)
        refine wpAny_passesOwn hp (thn (hb.run _ s6 σ6 H6 _ I6 q6) fun f s7 q7 => ?_)
        have again : ∀ {σ7 : L2.St} {H7 : Hp}, Inv X (pins ++ pinsAt fp s5.heap) σ7 H7 s7 → N σ7 H7 → ∃ m, m < n ∧ ∃ i σ' H', Inv X pins σ' H' s7 ∧ ZnAt a b (s1.heap.objs.size + 4) (s1.heap.objs.size + 2) (s1.heap.objs.size + 3) s1.heap.objs.size (s1.heap.objs.size + 1) T0 i s7.heap ∧ (∀ c ∈ fp, H' c = none) ∧ W i m σ' H' ∧ (i = 0 → s7.heap.objs.size = T0) := fun {σ7 H7} I7 n7 => by
          obtain ⟨m', hm, w7⟩ := hN σ7 H7 n7
          refine ⟨m', hm, i + 1, σ7, H7, I7.unpinned, st5.keep (hfp ▸ fun c hb o e => (I7.pin (c, o) (List.mem_append_right _ (List.mem_append_right _ (mem_pinsAt hb e)))).1), fun c hb => ?_, w7, fun z => absurd z (Nat.succ_ne_zero _)⟩
          obtain ⟨o, e, d⟩ := ob5 c hb
          exact (I7.pin (c, o) (List.mem_append_right _ (List.mem_append_right _ (mem_pinsAt hb e)))).2.1
        cases f with
        | next => obtain ⟨σ7, H7, I7, n7⟩ := q7; exact again I7 n7
        | cont => obtain ⟨σ7, H7, I7, n7⟩ := q7; exact again I7 n7
        | brk => obtain ⟨σ7, H7, I7, q7⟩ := q7; exact ⟨σ7, H7, I7.unpinned, q7⟩
        | ret v => obtain ⟨x7, σ7, H7, I7, r7, q7⟩ := q7; exact ⟨x7, σ7, H7, I7.unpinned, r7, q7⟩
/-- lists of one length that stay -/
theorem for_zipN {K : PySem.W.Frag} {a b : Addr} {xs ys : List V} {g : TG} {tb : TS} {D : L2.Ends} {σ : L2.St} {H : Hp} (hl : xs.length = ys.length) (Pv : Addr → Nat → L2.St → Hp → Prop) (h0 : ∀ T0, H T0 = none → Pv T0 0 σ H)
    (ha : ∀ T0 i σ H, i ≤ xs.length → Pv T0 i σ H → SqL K H a xs ∧ SqL K H b ys ∧ (0 < i → ∃ u, H T0 = some u))
    (hs : ∀ T0 i x y T σ H, xs[i]? = some x → ys[i]? = some y → Pv T0 i σ H → H T = none → (i = 0 → T = T0) → g (.ref T) σ (upd H T (.tup [x, y])) fun σ2 H2 => tb { D with nx := Pv T0 (i + 1), ct := Pv T0 (i + 1), bk := D.nx } σ2 H2) (hd : ∀ T0 σ H, Pv T0 xs.length σ H → D.nx σ H) :
    ∀ T0 : Addr, H T0 = none → ∃ W : Nat → Nat → L2.St → Hp → Prop, (∃ m, W 0 m σ H) ∧ ∀ i m σ H, W i m σ H →
      (0 < i → ∃ u, H T0 = some u) ∧ (((Itz K a b).stop i H ∧ D.nx σ H) ∨ ((Itz K a b).go i H ∧ ∃ N : L2.St → Hp → Prop, (∀ σ' H', N σ' H' → ∃ m', m' < m ∧ W (i + 1) m' σ' H') ∧ ∀ x H', (Itz K a b).yld i H x H' → (i = 0 → x = .ref T0) → g x σ H' fun σ2 H2 => tb { D with nx := N, ct := N, bk := D.nx } σ2 H2)) := by
  intro T0 hT0
  refine ⟨fun i m σ H => m = xs.length - i ∧ i ≤ xs.length ∧ Pv T0 i σ H, ⟨xs.length, by simp, Nat.zero_le _, h0 T0 hT0⟩, ?_⟩
  rintro i m σ H ⟨rfl, hi, p⟩
  obtain ⟨q1, q2, q3⟩ := ha T0 i σ H hi p
  refine ⟨q3, ?_⟩
  by_cases hlt : i < xs.length
  · refine .inr ⟨⟨xs, ys, xs[i], ys[i], q1, q2, by simp [hlt], by simp [hlt, ← hl]⟩, Pv T0 (i + 1), fun σ' H' p' => ⟨xs.length - (i + 1), by omega, rfl, hlt, p'⟩, fun x H' y z => ?_⟩
    obtain ⟨T, x', y', rfl, hT, rfl, hx, hy⟩ := y
    exact hs T0 i x' y' T σ H (hx xs q1) (hy ys q2) p hT (fun e => by have := z e; injection this)
  · have e : i = xs.length := by omega
    subst e
    exact .inl ⟨⟨xs, ys, q1, q2, .inl (Nat.le_refl _)⟩, hd T0 σ H p⟩
end
section
variable {X : Cx} {CX : CXT} {k : Nat} {f : Addr} {fd : FuncData} {ps ks : List Str} {sp : Sp} {E : L2.St → XK} {x : Str} {p pos : Pos} {kws : List Keyword} {tk : TA} {g : List Value → List Value → List Value} {gV : List V → List V → List V}
theorem run_fnkS {pins : List (Addr × Obj)} {σ : L2.St} {H : Hp} {s : Shared} {Q : VK} {us ws : List Value} {vs zs : List V} (F : FnOk X.prog X.w X.K X.mg X.base CX k f fd ps sp) (hr : Room k X.A) (hb : KBinds X.K fd ps ks g gV) (hx : PassesAt CX X σ (E σ))
    (I : Inv X pins σ H s) (r : Vals vs us) (rz : Vals zs ws) (h : sp (gV vs zs) H Q (E σ)) : wpAny (model X.prog X.w) X.A (call (.ref f) us (ks.zip ws)) (EP X pins σ Q) X.xe s := by
  have r2 := hb.rel r rz
  have hl : (g us ws).length = ps.length := by rw [← r2.length]; exact F.len _ _ _ _ h
  refine wpAny_call (codeAny_mono (F.run X.A X.stack s H ⟨us, ks.zip ws⟩ (g us ws) (gV vs zs) Q (E σ) hr I.env0 (hb.to s us ws I.kIn hl) r2 h) fun r s' hq => ?_)
  cases r with
  | error e => exact hx pins H s e s' I hq
  | ok fl =>
    cases fl with
    | ret u => exact I.after hq
    | next => exact False.elim hq
    | brk => exact False.elim hq
    | cont => exact False.elim hq
def tCallKS (sp : Sp) (gV : List V → List V → List V) (E : L2.St → XK) (tk : TA) : TE := fun σ H Q => tk σ H fun zs H2 => sp (gV [] zs) H2 Q (E σ)
/-- f(k=e, ..) that may raise, within a try -/
theorem pe_callKS (F : FnOk X.prog X.w X.K X.mg X.base CX k f fd ps sp) (hr : Room k X.A) (hg : Gl X x) (hm : X.mg x = some (.ref f)) (hk : PySem.W.keepIn X.K (.ref f) = true) (hb : KBinds X.K fd ps ks g gV) (hx : ∀ σ, PassesAt CX X σ (E σ))
    (hkw : PK X kws tk) (hall : (backToKw pos (keywordEach kws X.env)).all (·.1.isSome) = true := by rfl) (hks : (backToKw pos (keywordEach kws X.env)).filterMap (·.1) = ks := by rfl)
    (hdb : (x == ("__debug__" : Str)) = false := by decide)
    (hpl : ((backTo pos (starEach [] X.env)).any (·.1) || (backToKw pos (keywordEach kws X.env)).any (·.1.isNone)) = false := by rfl) :
    PE X (.Call (.Name x p) [] kws pos) (tCallKS sp gV E tk) := by
  refine ⟨fun pins s σ H Q I h => ?_⟩
  refine wpAny_Call_Name_kw (ld_glob I hg hm ?_ hdb)
  refine PySem.W.callWith_KW0 (h₀ := X.base) I.ok.mod.kin hk hall ?_ hpl
  refine thn (hkw.run pos pins s σ H _ I h) fun ws s2 ⟨zs, H2, I2, rz, q2⟩ => ⟨I2.kIn, ?_⟩
  rw [hks]
  exact run_fnkS F hr hb (hx σ) I2 .nil rz q2
end
end Hx

set_option Elab.async false
set_option linter.all false
set_option maxRecDepth 100000
set_option maxHeartbeats 4000000
/-! HsKL: list and len of a table of the module; repr of None, or of what shows -/
namespace Hx
open PySem PySem.Spec PyProof.Rows L2
theorem lit_pairs {P : Program} {w : World} : ∀ {es : List DictEntry} {xs : List Str}, tbLit es xs = true → Pairs (strKind P w) es (xs.zip (es.map fun e => e.val)) ∧ (xs.zip (es.map fun e => e.val)).map Prod.fst = xs
  | [], [], _ => ⟨.nil, rfl⟩
  | e :: es, x :: xs, h => by
    have h : (e.key.isStr x && tbLit es xs) = true := h
    rw [Bool.and_eq_true] at h
    obtain ⟨p, q⟩ := lit_pairs (P := P) (w := w) h.2
    exact ⟨.cons (by show Value.isStrOf x e.key = true; rw [← PySem.W.isStr_of]; exact h.1) rfl p, congrArg (x :: ·) q⟩
  | [], _ :: _, h => nomatch h
  | _ :: _, [], h => nomatch h
/-- a table whose names are just these, in this sequence -/
structure KSeq (K : PySem.W.Frag) (w : World) (D : Addr) (xs : List Str) : Prop where
  ex : ∃ es n, KDict K w D es n ∧ tbLit es.toList xs = true
  nd : xs.Nodup
  sz : xs.length ≤ 1000
theorem KSeq.at {K : PySem.W.Frag} {w : World} {P : Program} {D : Addr} {xs : List Str} (T : KSeq K w D xs) {h : Heap} (X : K.In h) : ∃ kvs ep, kvs.map Prod.fst = xs ∧ h.DictAt (strKind P w) D kvs ep ∧ (D == sysModules) = false := by
  obtain ⟨es, n, kd, hl⟩ := T.ex
  obtain ⟨p, q⟩ := lit_pairs (P := P) (w := w) hl
  refine ⟨_, n, q, ⟨_, es, X _ _ kd.at_, ⟨rfl, rfl, rfl⟩, rfl, fun e he => ?_, p, by have z := T.nd; rw [← q] at z; exact z⟩, kd.low⟩
  obtain ⟨x, t, e1, e2⟩ := kd.lit.all e (Array.mem_toList_iff.mpr he)
  exact ⟨x, by rw [e1]; exact strKind_is P w x t, e2⟩
section
variable {X : Cx} {D : Addr} {xs : List Str}
theorem call_listTab (hc : X.calm = true) (T : KSeq X.K X.w D xs) : CallR X (.type "list") (fun vs H Q => vs = [.ref D] ∧ ∀ p, H p = none → Q (.ref p) (upd H p (.lst (xs.map V.str)))) := by
  intro pins s σ H vs us Q I r q
  obtain ⟨ex, q⟩ := q
  subst ex
  obtain ⟨u, eu, rx⟩ := vals1 r
  subst eu
  cases rx
  obtain ⟨kvs, ep, ek, hat, lo⟩ := T.at (P := X.prog) I.kIn
  have hl : kvs.length = xs.length := by rw [← ek, List.length_map]
  have hsz : kvs.length ≤ sizeLine := size_le (by have := T.sz; omega)
  refine PySem.W.kdl_call (PySem.W.kdl_dict (knd := strKind X.prog X.w) (kvs := kvs) (ep := ep) lo) (I.ok.hd hc) hat hsz fun g tk acc c0 kp hD hacc => ?_
  have hv : Vals (xs.map V.str) acc.toList := by
    refine vals_of_idx _ _ (by rw [Array.length_toList, hacc.1, List.length_map, hl]) fun j v e => ?_
    obtain ⟨k, x, e1, e2⟩ := hacc.2 j v (by rw [← Array.getElem?_toList]; exact e)
    obtain ⟨t, rfl⟩ := Value.isStrOf_shape (show Value.isStrOf k v = true from e2)
    refine ⟨.str k, ?_, t, rfl⟩
    rw [List.getElem?_map, ← ek, List.getElem?_map, e1]; rfl
  refine ⟨.ref s.heap.objs.size, upd H s.heap.objs.size (.lst (xs.map V.str)), I.laid (t' := tk) kp (Nat.le_refl _)
    (show ObjOk X.prog X.w _ _ _ (.lst (xs.map V.str)) from ⟨by rw [List.length_map, ← hl]; exact hsz, acc.toList, c0, hv, by rw [Array.toArray_toList]; exact hD⟩), rfl, q _ (I.hok.fresh (Nat.le_refl _))⟩
theorem call_lenTab (T : KSeq X.K X.w D xs) : CallR X (.builtin "len") (fun vs H Q => vs = [.ref D] ∧ Q (.int (xs.length : Nat)) H) := by
  intro pins s σ H vs us Q I r q
  obtain ⟨ex, q⟩ := q
  subst ex
  obtain ⟨u, eu, rx⟩ := vals1 r
  subst eu
  cases rx
  obtain ⟨kvs, ep, ek, hat, lo⟩ := T.at (P := X.prog) I.kIn
  have hl : kvs.length = xs.length := by rw [← ek, List.length_map]
  have hz := T.sz
  refine call_len_dict lo hat.dictOf (by omega) ?_
  rw [hl]
  exact ⟨.int (xs.length : Nat), H, I.tok _, ⟨_, rfl⟩, q⟩
theorem call_reprA (hg : X.A.guards = some []) (hr : Room 0 X.A) : CallR X (.builtin "repr") (fun xs H Q => ∃ (v : V) (d : PyData), xs = [v] ∧ Dp X.K H v d ∧ (d = .none ∨ ((∃ ds, d = .tuple ds) ∧ d.showable = true ∧ d.hasDict = false ∧ d.depth ≤ 64 ∧ d.shown.length ≤ sizeLine)) ∧ Q (.str d.shown) H) := by
  intro pins s σ H vs us Q I r q
  obtain ⟨v, d, rfl, hd, ok, q⟩ := q
  rcases ok with rfl | ⟨⟨ds, rfl⟩, o1, o2, o3, o4⟩
  · cases hd
    exact call_repr_io pins s σ H _ us Q I r (.inr ⟨rfl, by rw [PyData.shown] at q; exact q⟩)
  · cases hd with
    | @tup a ws _ h1 h2 => exact call_reprG hg hr pins s σ H _ us Q I r ⟨a, _, rfl, .tup h1 h2, o1, o2, o3, o4, q⟩
end
end Hx

set_option Elab.async false
set_option linter.all false
set_option maxRecDepth 100000
set_option maxHeartbeats 4000000
/-! what repr asks of nested tuples and lists of small things; sorted lists of places -/
namespace Hx
open PySem PySem.Spec PyProof.Rows L2
structure Sh (k b : Nat) (d : PyData) : Prop where
  sw : d.showable = true
  nd : d.hasDict = false
  dp : d.depth ≤ k
  ln : d.shown.length ≤ b
theorem Sh.mono {k b k' b' : Nat} {d : PyData} (x : Sh k b d) (h1 : k ≤ k') (h2 : b ≤ b') : Sh k' b' d := ⟨x.sw, x.nd, Nat.le_trans x.dp h1, Nat.le_trans x.ln h2⟩
theorem sh_num {n : Int} (h : 0 ≤ n ∧ n < 10 ^ 20) : Sh 0 20 (.int n) := ⟨by rw [PyData.showable]; exact decide_eq_true (log_small h), by rw [PyData.hasDict], by simp [PyData.depth], by
  rw [PyData.shown]; exact toString_length_le h.1 (by decide : 0 < 20) h.2⟩
theorem sh_non : Sh 0 20 .none := ⟨by rw [PyData.showable], by rw [PyData.hasDict], by simp [PyData.depth], by rw [PyData.shown]; decide⟩
theorem sh_all {k b : Nat} : ∀ {ds : List PyData}, (∀ d ∈ ds, Sh k b d) → PyData.showableAll ds = true ∧ PyData.hasDictAll ds = false ∧ PyData.depthAll ds ≤ k ∧ piled (PyData.shownAll ds) ≤ (b + 2) * ds.length
  | [], _ => ⟨rfl, rfl, by simp [PyData.depthAll], Nat.le_refl _⟩
  | d :: r, h => by
    obtain ⟨i1, i2, i3, i4⟩ := sh_all (ds := r) fun x hx => h x (List.mem_cons_of_mem _ hx)
    have x := h d List.mem_cons_self
    refine ⟨by rw [PyData.showableAll, x.sw, i1]; rfl, by rw [PyData.hasDictAll, x.nd, i2]; rfl, by rw [PyData.depthAll]; exact Nat.max_le.mpr ⟨x.dp, i3⟩, ?_⟩
    rw [PyData.shownAll, piled_cons, List.length_cons, Nat.mul_succ]
    have := x.ln
    omega
theorem sh_tup {k b : Nat} (m : Nat) {ds : List PyData} (h : ∀ d ∈ ds, Sh k b d) (hm : ds.length ≤ m) : Sh (k + 1) ((b + 2) * m + 3) (.tuple ds) := by
  obtain ⟨i1, i2, i3, i4⟩ := sh_all h
  refine ⟨by rw [PyData.showable]; exact i1, by rw [PyData.hasDict]; exact i2, by rw [PyData.depth]; omega, ?_⟩
  have i5 : (b + 2) * ds.length ≤ (b + 2) * m := Nat.mul_le_mul_left _ hm
  rw [PyData.shown]
  unfold tupleText
  rw [strLen_append, strLen_append]
  have e1 : (("(" : String) : Str).length = 1 := rfl
  have e2 : ∀ c : Bool, ((if c = true then ",)" else ")" : String) : Str).length ≤ 2 := fun c => by cases c <;> decide
  have e3 : (Str.join ", " (PyData.shownAll ds)).length ≤ piled (PyData.shownAll ds) := by
    by_cases z : PyData.shownAll ds = []
    · rw [z]; exact Nat.le_refl 0
    · have := join_length_add _ z
      omega
  have := e2 ((PyData.shownAll ds).length == 1)
  rw [e1]
  omega
/-- a sorted list of the places below m, each once -/
theorem sorted_range {ns xs : List Int} {m : Nat} (hp : ns.Perm xs) (hs : ns.Pairwise (· ≤ ·)) (nd : xs.Nodup) (hl : xs.length = m) (hb : ∀ x ∈ xs, 0 ≤ x ∧ x < m) : ns = (List.range m).map fun i : Nat => (i : Int) := by
  have hn : ns.Nodup := hp.symm.nodup nd
  have h2 : ns.Pairwise (· < ·) := (hs.and hn).imp fun {a b} h => by have := h.1; have h3 : a ≠ b := h.2; omega
  have hb2 : ∀ x ∈ ns, 0 ≤ x ∧ x < m := fun x hx => hb x (hp.mem_iff.mp hx)
  have hl2 : ns.length = m := hp.length_eq.trans hl
  -- a rising list of so many below m
  have key : ∀ (ns : List Int) (a m : Int), ns.Pairwise (· < ·) → (∀ x ∈ ns, a ≤ x ∧ x < m) → (ns.length : Int) = m - a → ∀ i (h : i < ns.length), ns[i] = a + i := by
    intro ns
    induction ns with
    | nil => intro a m _ _ _ i h; simp at h
    | cons y r ih =>
      intro a m hs hb hl i h
      obtain ⟨h1, h2⟩ := List.pairwise_cons.mp hs
      have hy := hb y List.mem_cons_self
      have gap : ∀ (r : List Int) (y m : Int), r.Pairwise (· < ·) → (∀ x ∈ r, y < x ∧ x < m) → (r.length : Int) ≤ m - y - 1 ∨ r = [] := by
        intro r
        induction r with
        | nil => intro _ _ _ _; exact .inr rfl
        | cons z q ih2 =>
          intro y m hs hb
          obtain ⟨g1, g2⟩ := List.pairwise_cons.mp hs
          have hz := hb z List.mem_cons_self
          left
          rcases ih2 z m g2 (fun x hx => ⟨g1 x hx, (hb x (List.mem_cons_of_mem _ hx)).2⟩) with q1 | q1
          · rw [List.length_cons]; omega
          · rw [q1]; simp; omega
      have hya : y = a := by
        rw [List.length_cons] at hl
        rcases gap r y m h2 (fun x hx => ⟨h1 x hx, (hb x (List.mem_cons_of_mem _ hx)).2⟩) with q1 | q1
        · omega
        · rw [q1] at hl; simp at hl; omega
      subst hya
      cases i with
      | zero => simp
      | succ j =>
        rw [List.getElem_cons_succ, ih (y + 1) m h2 (fun x hx => ⟨by have := h1 x hx; omega, (hb x (List.mem_cons_of_mem _ hx)).2⟩) (by rw [List.length_cons] at hl; omega)]
        omega
  apply List.ext_getElem (by simp [hl2])
  intro i h3 h4
  rw [key ns 0 m h2 hb2 (by omega) i h3]
  simp
/-! ### an own == beside a tuple -/
theorem op_eqOwnT {X : Cx} {n : Nat} {C f : Addr} {fd : FuncData} {ps : List Str} {sp : Sp} (F : FnOk X.prog X.w X.K X.mg X.base CX0 n f fd ps sp) (hr : Room n X.A)
    (hs : PySem.W.findIn X.K (.ref C) "__eq__" = some (some (.ref f))) (hf : PySem.W.isFn X.K (.ref f) = true) (hb : Binds X.K fd ps []) (hsl : PySem.W.subIn X.K (.type "tuple") (.ref C) = some false) :
    OpR X (compareOp .Eq) (fun x y H Q => ∃ a b dx fs xs, x = .ref a ∧ y = .ref b ∧ H a = some (.ins C dx fs) ∧ H b = some (.tup xs) ∧ sp [.ref a, .ref b] H (fun v H' => ∃ c, v = .bl c ∧ Q (.bl c) H') (fun _ _ _ => False)) := by
  intro pins s σ H x y v u Q I rx ry h
  obtain ⟨a, b, dx, fs, xs, rfl, rfl, ha, hb', hsp⟩ := h
  cases rx
  cases ry
  obtain ⟨mA, J, _⟩ := ins_get I.hok ha
  obtain ⟨od, J, _⟩ := J.look
  obtain ⟨_, _, nn, _, h1, hc, _⟩ := (show ObjOk X.prog X.w H s.heap b (.tup xs) from I.hok b _ hb')
  obtain ⟨m, hF⟩ := I.fr
  have hu := hr.un
  refine PySem.W.cmp_K (op := .Eq) (tb := .type "tuple") (by omega) hF I.ok.mod.kin J (fun A Q E s k q => wpAny_typeOf_ref (k _ _ h1) (by rw [hc]; exact q)) (by simp [PySem.W.notFirst, hsl]) hs hf ?_
  have hl := F.len _ _ _ _ hsp
  have r2 : Vals [V.ref a, V.ref b] [Value.ref a, Value.ref b] := .cons rfl (.cons rfl .nil)
  have hB : BindsTo s fd ⟨[.ref a, .ref b], []⟩ (ps.zip [.ref a, .ref b]) := by
    have := hb s [.ref a, .ref b] I.kIn (by simpa using hl)
    simpa using this
  refine wpAny_call (codeAny_mono (F.run X.A X.stack s H ⟨[.ref a, .ref b], []⟩ [.ref a, .ref b] [.ref a, .ref b] _ _ hr I.env0 hB r2 hsp) fun r s' hq => ?_)
  match r, hq with
  | .ok (.ret w), hq =>
    obtain ⟨z, H', I', rz, c, rfl, q⟩ := I.after hq
    cases rz
    exact ⟨.bl c, H', I', rfl, q⟩
  | .error e, hq => exact False.elim hq
  | .ok .next, hq => exact False.elim hq
  | .ok .brk, hq => exact False.elim hq
  | .ok .cont, hq => exact False.elim hq
theorem kit_notT {K : PySem.W.Frag} {C : Addr} (h1 : PySem.W.isClsIn K C = true) (h2 : PySem.W.typeIn K (.ref C) = some (.type "type")) (h3 : PySem.W.subIn K (.type "tuple") (.ref C) = some false) : PySem.W.kitOne K (.type "tuple") (.ref C) = some false := by
  have e : ((PySem.W.clsIn K C).isSome && PySem.W.typeIn K (.ref C) == some (.type "type")) = true := by
    have h1' : (PySem.W.clsIn K C).isSome = true := h1
    rw [h1', h2] <;> rfl
  show (if ((Value.type "tuple" == .ref C) = true) then some true else (if ((PySem.W.clsIn K C).isSome && PySem.W.typeIn K (.ref C) == some (.type "type")) = true then PySem.W.subIn K (.type "tuple") (.ref C) else none)) = some false
  rw [if_neg (by intro z; cases z), if_pos e]
  exact h3
end Hx

set_option Elab.async false
set_option linter.all false
/-! HsAny: flat data of any kind; k91's table of points -/
namespace Hx
open PySem PySem.Spec PyProof.Rows L2
def kiL : List (Str × Int × Int × Int) := [("at", 0, 4095, 0), ("register", 0, 7, 3), ("place", 0, 1023, 5), ("cause", 1, 31, 2)]
def kiT : List (Str × PyData) := kiL.map fun t => (t.1, .tuple [.int t.2.1, .int t.2.2.1, .int t.2.2.2])
def kiNo : List Str := ["1"]
def kiOf (n : Str) : Option (Int × Int × Int) := kiL.lookup n
def intB : PyData → Bool
  | .int _ => true
  | _ => false
def btwB (d : PyData) (a b : Int) : Bool := match d with
  | .int i => decide (a ≤ i ∧ i ≤ b)
  | _ => false
/-- whether a tuple of these (or none: what is no tuple) is a point -/
def ptB : Option (List PyData) → Bool
  | some [.str n, d] => match kiOf n with
    | some (a, b, _) => btwB d a b
    | none => false
  | _ => false
theorem ki_cases {n : Str} (h : n ∈ (["at", "register", "place", "cause"] : List Str)) : ∃ a b c, (n, a, b, c) ∈ kiL ∧ kiOf n = some (a, b, c) := by
  simp only [List.mem_cons, List.not_mem_nil, or_false] at h
  rcases h with rfl | rfl | rfl | rfl
  · exact ⟨0, 4095, 0, by decide +kernel, by decide +kernel⟩
  · exact ⟨0, 7, 3, by decide +kernel, by decide +kernel⟩
  · exact ⟨0, 1023, 5, by decide +kernel, by decide +kernel⟩
  · exact ⟨1, 31, 2, by decide +kernel, by decide +kernel⟩
theorem ptB_at {n : Str} {d : PyData} {a b c : Int} (h : kiOf n = some (a, b, c)) : ptB (some [.str n, d]) = btwB d a b := by
  simp [ptB, h]
theorem ptB_no {n : Str} {d : PyData} (h : kiOf n = none) : ptB (some [.str n, d]) = false := by
  simp [ptB, h]
theorem ki_no : kiOf "1" = none := by decide +kernel
/-- any value: flat, a list, a dict (none), or a tuple of flat data -/
def AnyV (K : PySem.W.Frag) (H : Hp) (P : List Pf) : V → Option (List PyData) → Prop
  | v, some ds => ∃ t, v = .ref t ∧ Pf.sq t (ds.map fv) ∈ P ∧ (∀ d ∈ ds, flatD d = true) ∧ ds.length ≤ 1000
  | v, none => ∃ ty, TyX K H v ty ∧ PySem.W.kitOne K ty (.type "tuple") = some false
def noneB (d : PyData) : Bool := decide (fv d = V.non)
def twoB (d e : PyData) (m : Int) : Bool := (noneB d && noneB e) || (btwB d 0 m && btwB e 0 65535)
def headB (a w c : PyData) : Bool := btwB a 0 4095 && (noneB w || btwB w 0 65535) && btwB c 0 31
def rowB : Option (List PyData) → Bool
  | some [a, w, c, h, t, p, s] => headB a w c && twoB h t 7 && twoB p s 1023
  | _ => false
/-! ### what a part of a point or a row may be -/
def five : List Str := ["at", "register", "place", "cause", "1"]
def okF : PyData → Prop
  | .none => True
  | .bool _ => True
  | .int i => -1 ≤ i ∧ i ≤ 65536
  | .str n => n ∈ five
  | _ => False
theorem okF.flat {d : PyData} (h : okF d) : flatD d = true := by
  cases d <;> first | rfl | exact h.elim
theorem okF.sh {d : PyData} (h : okF d) : Sh 0 20 d := by
  cases d with
  | none => exact sh_non
  | bool b => exact ⟨by rw [PyData.showable], by rw [PyData.hasDict], by simp [PyData.depth], by rw [PyData.shown]; cases b <;> decide⟩
  | int i =>
    obtain ⟨h1, h2⟩ := h
    by_cases h0 : 0 ≤ i
    · exact sh_num ⟨h0, by omega⟩
    · obtain rfl : i = -1 := by omega
      exact ⟨by rw [PyData.showable]; decide +kernel, by rw [PyData.hasDict], by simp [PyData.depth], by rw [PyData.shown]; decide +kernel⟩
  | str n =>
    have h2 : n ∈ five := h
    simp only [five, List.mem_cons, List.not_mem_nil, or_false] at h2
    rcases h2 with rfl | rfl | rfl | rfl | rfl <;> exact ⟨by rw [PyData.showable] <;> decide +kernel, by rw [PyData.hasDict], by simp [PyData.depth], by rw [PyData.shown]; decide +kernel⟩
  | _ => exact h.elim
theorem sh_lst {k b : Nat} (m : Nat) {ds : List PyData} (h : ∀ d ∈ ds, Sh k b d) (hm : ds.length ≤ m) : Sh (k + 1) ((b + 2) * m + 3) (.list ds) := by
  obtain ⟨i1, i2, i3, i4⟩ := sh_all h
  refine ⟨by rw [PyData.showable]; exact i1, by rw [PyData.hasDict]; exact i2, by rw [PyData.depth]; omega, ?_⟩
  have i5 : (b + 2) * ds.length ≤ (b + 2) * m := Nat.mul_le_mul_left _ hm
  rw [PyData.shown]
  have a := text_le (PyData.shownAll ds) 0 "["
  show (textFrom 0 "[" _ ++ "]").length ≤ _
  rw [strLen_append]
  have e : (("[" : String) : Str).length = 1 := rfl
  have e2 : (("]" : String) : Str).length = 1 := rfl
  rw [e] at a
  rw [e2]
  omega
/-- what repr asks of a thing that shows in short -/
theorem sh_ask {k b : Nat} {d : PyData} (h : Sh k b d) (hk : k ≤ 64) (hb : b ≤ 10000) : d.showable = true ∧ d.hasDict = false ∧ d.depth ≤ 64 ∧ d.shown.length ≤ sizeLine :=
  ⟨h.sw, h.nd, Nat.le_trans h.dp hk, by have := h.ln; rw [sizeLine_eq]; omega⟩
theorem ask_tup {ds : List PyData} (h : ∀ d ∈ ds, okF d) (hl : ds.length ≤ 10) : (PyData.tuple ds).showable = true ∧ (PyData.tuple ds).hasDict = false ∧ (PyData.tuple ds).depth ≤ 64 ∧ (PyData.tuple ds).shown.length ≤ sizeLine :=
  sh_ask (sh_tup 10 (fun d m => (h d m).sh) hl) (by decide) (by decide)
theorem ask_lst {ds : List PyData} (h : ∀ d ∈ ds, okF d) (hl : ds.length ≤ 10) : (PyData.list ds).showable = true ∧ (PyData.list ds).hasDict = false ∧ (PyData.list ds).depth ≤ 64 ∧ (PyData.list ds).shown.length ≤ sizeLine :=
  sh_ask (sh_lst 10 (fun d m => (h d m).sh) hl) (by decide) (by decide)
/-! ### one of two defs, by a name that holds it -/
theorem Fun.ne {K : PySem.W.Frag} {x y qx qy : Str} {st su : Stmt} {f g : Addr} {fd gd : FuncData} (F : Fun K x qx st f fd) (G : Fun K y qy su g gd) (h : x ≠ y) : f ≠ g := by
  rintro rfl
  obtain ⟨_, _, _, _, _, _, _, _, _, rfl, l1, _⟩ := F.ex
  obtain ⟨_, _, _, _, _, _, _, _, _, rfl, l2, _⟩ := G.ex
  have e := Option.some.inj (l1.symm.trans l2)
  injection e with _ _ e _
  injection e with e
  exact h (congrArg FuncData.name e)
def S91 (a b : Addr) (sp sq : Sp) : Addr → Option Sp := fun f => if f = a then some sp else if f = b then some sq else none
theorem S91.one {a b : Addr} {sp sq : Sp} : S91 a b sp sq a = some sp := if_pos rfl
theorem S91.two {a b : Addr} {sp sq : Sp} (h : a ≠ b) : S91 a b sp sq b = some sq := by
  unfold S91
  rw [if_neg (Ne.symm h), if_pos rfl]
theorem held91 {P : Program} {w : World} {K : PySem.W.Frag} {mg : Str → Option Value} {base : Heap} {k k1 k2 : Nat} {a b : Addr} {sp sq : Sp} {fa fb : FuncData} {pa pb : List Str} (F : FnOk P w K mg base CX0 k1 a fa pa sp) (ka : PySem.W.keepIn K (.ref a) = true) (ba : Binds K fa pa [])
    (G : FnOk P w K mg base CX0 k2 b fb pb sq) (kb : PySem.W.keepIn K (.ref b) = true) (bb : Binds K fb pb []) (h1 : k1 ≤ k) (h2 : k2 ≤ k) : ∀ f s, S91 a b sp sq f = some s → Held P w K mg base k f s := by
  intro f s h
  unfold S91 at h
  split at h
  · rename_i e
    subst e
    obtain rfl := Option.some.inj h
    exact ⟨⟨fa, pa, F.mono h1, ka, ba⟩⟩
  · split at h
    · rename_i e
      subst e
      obtain rfl := Option.some.inj h
      exact ⟨⟨fb, pb, G.mono h2, kb, bb⟩⟩
    · cases h
/-! ### any value, by what is owned -/
def AnyO (L : List (Addr × Ob)) (P : List Pf) (v : V) : Option (List PyData) → Prop
  | some ds => ∃ t, v = .ref t ∧ Pf.sq t (ds.map fv) ∈ P ∧ (∀ d ∈ ds, flatD d = true) ∧ ds.length ≤ 1000
  | none => (∃ d, v = fv d ∧ flatD d = true) ∨ (∃ a xs, v = .ref a ∧ (a, Ob.raw (.lst xs)) ∈ L) ∨ ∃ a kvs, v = .ref a ∧ (a, Ob.raw (.dK kvs)) ∈ L
theorem AnyO.toV {K : PySem.W.Frag} {H : Hp} {L : List (Addr × Ob)} {P : List Pf} {v : V} {kd : Option (List PyData)} (h : AnyO L P v kd) (hO : Own K H L P) : AnyV K H P v kd := by
  cases kd with
  | some ds => exact h
  | none =>
    rcases h with ⟨d, rfl, hd⟩ | ⟨a, xs, rfl, m⟩ | ⟨a, kvs, rfl, m⟩
    · cases d with
      | none => exact ⟨.type "NoneType", .base .non, kit_ty (by decide +kernel)⟩
      | bool b => exact ⟨.type "bool", .base (.bl _), kit_ty (by decide +kernel)⟩
      | int i => exact ⟨.type "int", .base (.int _), kit_ty (by decide +kernel)⟩
      | str x => exact ⟨.type "str", .base (.str _), kit_ty (by decide +kernel)⟩
      | _ => exact nomatch hd
    · exact ⟨.type "list", .base (.lst (hO.raw m)), kit_ty (by decide +kernel)⟩
    · exact ⟨.type "dict", .base (.dK (hO.raw m)), kit_ty (by decide +kernel)⟩
theorem dp_fv {K : PySem.W.Frag} {H : Hp} {d : PyData} (h : flatD d = true) : Dp K H (fv d) d := by
  cases d with
  | none => exact .non
  | bool b => exact .bl b
  | int i => exact .int i
  | str x => exact .str x
  | _ => exact nomatch h
theorem dpA_fv {K : PySem.W.Frag} {H : Hp} : ∀ {ds : List PyData}, (∀ d ∈ ds, flatD d = true) → DpAll K H (ds.map fv) ds
  | [], _ => .nil
  | _ :: _, h => .cons (dp_fv (h _ List.mem_cons_self)) (dpA_fv fun d m => h d (List.mem_cons_of_mem _ m))
end Hx

set_option Elab.async false
set_option linter.all false
set_option maxRecDepth 100000
set_option maxHeartbeats 4000000
/-! enumerate(xs, start=k) over a list or a tuple; lists sifted out of a walk, their items data -/
namespace Hx
open PySem PySem.Spec PyProof.Rows L2
theorem callWith_typeK {M : Model} {A : Around} {E : Value → Shared → Prop} {s : Shared} {env : Env} {pos : Pos} {T : String} {e : Expr} {rest : List Expr} {kws : List Keyword} {Q : Value → Shared → Prop}
    (h : wpAny M A (spliced (backTo pos (starEach (e :: rest) env))) (fun vs s₁ => wpAny M A (evalAll ((backToKw pos (keywordEach kws env)).map (·.2)))
      (fun kvs s₂ => wpAny M A (call (.type T) vs (((backToKw pos (keywordEach kws env)).filterMap (·.1)).zip kvs)) Q E s₂) E s₁) E s)
    (he : backTo pos (starEach (e :: rest) env) = (false, eval e env) :: backTo pos (starEach rest env) := by rfl)
    (hplain : (backTo pos (starEach (e :: rest) env)).any (·.1) = false := by rfl)
    (hall : (backToKw pos (keywordEach kws env)).all (·.1.isSome) = true := by rfl)
    (hkw : (backToKw pos (keywordEach kws env)).any (·.1.isNone) = false := by rfl) :
    wpAny M A (callWith pos (.type T) [] (backTo pos (starEach (e :: rest) env)) (backToKw pos (keywordEach kws env))) Q E s := by
  have h2 : wpAny M A (evalArgs (.type T) true (backTo pos (starEach (e :: rest) env)) (backToKw pos (keywordEach kws env))) (fun a s₁ => wpAny M A (call (.type T) ([] ++ a.pos) a.kw) Q E s₁) E s := by
    rw [he] at h ⊢
    exact evalArgs_kwB hall h
  unfold callWith
  refine wpAny_bind (wpAny_holding (wpAny_mono h2 (fun a s₁ h₁ => wpAny_bind (wpAny_standAt ?_)) fun _ _ x => x))
  simp only [hplain, hkw, Bool.or_false]
  refine wpAny_bind (wpAny_pure ?_)
  exact wpAny_bind (wpAny_mono h₁ (fun r s₂ hr => wpAny_bind (wpAny_holding (wpAny_point (wpAny_pure hr)))) fun _ _ x => x)
/-- the list, the tuple, at a, each item in a new pair, counted from k -/
def IteS (K : PySem.W.Frag) (a : Addr) (k : Int) : It :=
  ⟨fun i H => ∃ (xs : List V) (x : V), SqL K H a xs ∧ xs[i]? = some x, fun i H v H' => ∃ T x, v = .ref T ∧ H T = none ∧ H' = upd H T (.tup [.int (k + (i : Nat)), x]) ∧ ∀ xs, SqL K H a xs → xs[i]? = some x, fun i H => ∃ xs : List V, SqL K H a xs ∧ xs.length = i⟩
def IteT (K : PySem.W.Frag) (a : Addr) (k : Int) : It :=
  ⟨fun i H => ∃ (xs : List V) (x : V), SqT K H a xs ∧ xs[i]? = some x, fun i H v H' => ∃ T x, v = .ref T ∧ H T = none ∧ H' = upd H T (.tup [.int (k + (i : Nat)), x]) ∧ ∀ xs, SqT K H a xs → xs[i]? = some x, fun i H => ∃ xs : List V, SqT K H a xs ∧ xs.length = i⟩
theorem walk_enumS {K : PySem.W.Frag} {a : Addr} {k : Int} {xs : List V} : Walk (IteS K a k) xs.length (fun H => SqL K H a xs) (YPair (fun i => some (.int (k + (i : Nat)))) (fun i => xs[i]?)) := by
  refine ⟨fun i _ hi q => ⟨xs, xs[i], q, by simp [hi]⟩, fun _ q => ⟨xs, q, rfl⟩, fun i H v H' _ q y => ?_⟩
  obtain ⟨T, x, h1, h2, h3, h4⟩ := y
  exact ⟨T, _, x, h1, h2, h3, rfl, h4 xs q⟩
theorem walk_enumT {K : PySem.W.Frag} {a : Addr} {k : Int} {xs : List V} : Walk (IteT K a k) xs.length (fun H => SqT K H a xs) (YPair (fun i => some (.int (k + (i : Nat)))) (fun i => xs[i]?)) := by
  refine ⟨fun i _ hi q => ⟨xs, xs[i], q, by simp [hi]⟩, fun _ q => ⟨xs, q, rfl⟩, fun i H v H' _ q y => ?_⟩
  obtain ⟨T, x, h1, h2, h3, h4⟩ := y
  exact ⟨T, _, x, h1, h2, h3, rfl, h4 xs q⟩
section
variable {P : Program} {w : World} {K : PySem.W.Frag} {elts : List Expr} {kk : Nat} {tpos : Pos}
theorem turn_enumS (a e it : Addr) (k : Int) :
    Turn P w K (.Tuple elts kk tpos) (IteS K a k) [e, it] e (fun i h => (∃ old, IsEnum h e it (k + ((i : Nat) : Int)) old) ∧ h.IsListIter it a i ∧ e ≠ it ∧ a ≠ it ∧ a ≠ e) where
  mem := by simp
  obj := fun i h st b hb => by
    obtain ⟨⟨old, he⟩, ⟨o, ho, hc, hd⟩, _⟩ := st
    have e' : b = e ∨ b = it := by simpa using hb
    rcases e' with z | z
    · rw [z]; exact ⟨_, he, fun v q => nomatch q⟩
    · rw [z]; exact ⟨o, ho, fun v q => by rw [hd] at q; cases q⟩
  keep := fun i h h' st k => let ⟨⟨old, he⟩, hi, hne⟩ := st; ⟨⟨old, k e (by simp) _ he⟩, hi.at fun o q => k it (by simp) o q, hne⟩
  item := by
    intro X hP hw hK hc i pins s σ H E I hf st hg
    subst hP hw hK
    obtain ⟨⟨old, he⟩, hit, hne, hai, hae⟩ := st
    obtain ⟨xs, x, hq, hx⟩ := hg
    obtain ⟨its, rv, p, hz⟩ := I.list hq
    obtain ⟨u, hu, ru⟩ := rv.get hx
    have hel : e < s.heap.objs.size := Heap.lt_size he
    have hil : it < s.heap.objs.size := by obtain ⟨_, q, _⟩ := hit; exact Heap.lt_size q
    have hlt : i < its.toArray.size := by simpa using (List.getElem?_eq_some_iff.mp hu).1
    refine wpAny_pyNext_enum_itemC (Draws.list (show X.A.in1.handled = none from I.ok.hd hc) it a hai its.toArray) he ⟨hit, p.isList⟩ hlt hne (by simp [hne, Ne.symm hae]) fun x' h' tk hP' ho hit' hT hsz hk => ?_
    obtain rfl : x' = u := by
      have h1 : its.toArray[i]? = some x' := hP'
      have h2 : its.toArray[i]? = some u := by simpa using hu
      rw [h1] at h2
      exact Option.some.inj h2
    refine ⟨_, rfl, wpAny_letOwnedTupleGo_enum (s := { s with heap := h', toks := tk + 1 }) ho fun h'' he' sb => ?_⟩
    have hT2 : h''.get? s.heap.objs.size = some { cls := .type "tuple", data := .seq #[.int (k + ((i : Nat) : Int)) tk, x'] } := (sb.2 _ (Nat.ne_of_gt hel)).trans hT
    have new : ObjOk X.prog X.w (upd H s.heap.objs.size (.tup [.int (k + (i : Nat)), x])) h'' s.heap.objs.size (.tup [.int (k + (i : Nat)), x]) :=
      ⟨by show 2 ≤ sizeLine; decide, [.int (k + ((i : Nat) : Int)) tk, x'], .cons ⟨_, rfl⟩ (.cons ru .nil), ⟨_, hT2, rfl, _, rfl⟩⟩
    have I1 : Inv X pins σ (upd H s.heap.objs.size (.tup [.int (k + (i : Nat)), x])) { s with heap := h'', toks := tk + 1 } :=
      I.turnedNew (ch := [e, it]) (fun b ob hb q => (sb.2 b (fun z => hb (by simp [z]))).trans (hk b ob (fun z => hb (by simp [z])) (fun z => hb (by simp [z])) q)) hf (Nat.le_refl _) new
    refine ⟨.ref s.heap.objs.size, _, I1, rfl, ⟨_, x, rfl, I.hok.fresh (Nat.le_refl _), rfl, fun ys hy => by rw [I.list_inj hy hq]; exact hx⟩, ⟨⟨x', ?_⟩, hit'.1.at fun o q => (sb.2 it (Ne.symm hne)).trans q, hne, hai, hae⟩, fun b hb => ?_⟩
    · have e1 : k + ((i + 1 : Nat) : Int) = k + (i : Int) + 1 := by omega
      rw [e1]; exact he'
    · have hb' : b < s.heap.objs.size := by
        have e' : b = e ∨ b = it := by simpa using hb
        rcases e' with z | z
        · rw [z]; exact hel
        · rw [z]; exact hil
      rw [upd_ne (Nat.ne_of_lt hb')]
      exact (hf b hb).1
  done := by
    intro X hP hw hK hc i pins s σ H E I hf st hg
    subst hP hw hK
    obtain ⟨⟨old, he⟩, hit, hne, hai, hae⟩ := st
    obtain ⟨xs, hq, hx⟩ := hg
    obtain ⟨its, rv, p, hz⟩ := I.list hq
    obtain ⟨f0, f1, f2, f3, f4, f5⟩ := hf it (by simp)
    have hl := rv.length
    have hn : i = its.toArray.size := by simp; omega
    subst hn
    exact wpAny_pyNext_enum_endD (Draws.list (show X.A.in1.handled = none from I.ok.hd hc) it a hai its.toArray) he ⟨hit, p.isList⟩ fun h' eb => ⟨rfl, I.turned (t' := s.toks) (fun b o hb q => eb b o hb q) f0 f1 f3 f4 f5⟩
  self := fun A i s Q E st h => let ⟨⟨_, he⟩, _⟩ := st; wpAny_pyIter_enum he h
theorem turn_enumT (a e it : Addr) (k : Int) :
    Turn P w K (.Tuple elts kk tpos) (IteT K a k) [e, it] e (fun i h => (∃ old, IsEnum h e it (k + ((i : Nat) : Int)) old) ∧ h.IsTupleIter it a i ∧ e ≠ it ∧ a ≠ it ∧ a ≠ e) where
  mem := by simp
  obj := fun i h st b hb => by
    obtain ⟨⟨old, he⟩, ⟨o, ho, hc, hd⟩, _⟩ := st
    have e' : b = e ∨ b = it := by simpa using hb
    rcases e' with z | z
    · rw [z]; exact ⟨_, he, fun v q => nomatch q⟩
    · rw [z]; exact ⟨o, ho, fun v q => by rw [hd] at q; cases q⟩
  keep := fun i h h' st k => let ⟨⟨old, he⟩, hi, hne⟩ := st; ⟨⟨old, k e (by simp) _ he⟩, hi.at fun o q => k it (by simp) o q, hne⟩
  item := by
    intro X hP hw hK hc i pins s σ H E I hf st hg
    subst hP hw hK
    obtain ⟨⟨old, he⟩, hit, hne, hai, hae⟩ := st
    obtain ⟨xs, x, hq, hx⟩ := hg
    obtain ⟨its, rv, p, hz⟩ := I.tuple hq
    obtain ⟨u, hu, ru⟩ := rv.get hx
    have hel : e < s.heap.objs.size := Heap.lt_size he
    have hil : it < s.heap.objs.size := by obtain ⟨_, q, _⟩ := hit; exact Heap.lt_size q
    have hlt : i < its.toArray.size := by simpa using (List.getElem?_eq_some_iff.mp hu).1
    refine wpAny_pyNext_enum_itemC (Draws.tuple (show X.A.in1.handled = none from I.ok.hd hc) it a hai its.toArray) he ⟨hit, p⟩ hlt hne (by simp [hne, Ne.symm hae]) fun x' h' tk hP' ho hit' hT hsz hk => ?_
    obtain rfl : x' = u := by
      have h1 : its.toArray[i]? = some x' := hP'
      have h2 : its.toArray[i]? = some u := by simpa using hu
      rw [h1] at h2
      exact Option.some.inj h2
    refine ⟨_, rfl, wpAny_letOwnedTupleGo_enum (s := { s with heap := h', toks := tk + 1 }) ho fun h'' he' sb => ?_⟩
    have hT2 : h''.get? s.heap.objs.size = some { cls := .type "tuple", data := .seq #[.int (k + ((i : Nat) : Int)) tk, x'] } := (sb.2 _ (Nat.ne_of_gt hel)).trans hT
    have new : ObjOk X.prog X.w (upd H s.heap.objs.size (.tup [.int (k + (i : Nat)), x])) h'' s.heap.objs.size (.tup [.int (k + (i : Nat)), x]) :=
      ⟨by show 2 ≤ sizeLine; decide, [.int (k + ((i : Nat) : Int)) tk, x'], .cons ⟨_, rfl⟩ (.cons ru .nil), ⟨_, hT2, rfl, _, rfl⟩⟩
    have I1 : Inv X pins σ (upd H s.heap.objs.size (.tup [.int (k + (i : Nat)), x])) { s with heap := h'', toks := tk + 1 } :=
      I.turnedNew (ch := [e, it]) (fun b ob hb q => (sb.2 b (fun z => hb (by simp [z]))).trans (hk b ob (fun z => hb (by simp [z])) (fun z => hb (by simp [z])) q)) hf (Nat.le_refl _) new
    refine ⟨.ref s.heap.objs.size, _, I1, rfl, ⟨_, x, rfl, I.hok.fresh (Nat.le_refl _), rfl, fun ys hy => by rw [I.tuple_inj hy hq]; exact hx⟩, ⟨⟨x', ?_⟩, hit'.1.at fun o q => (sb.2 it (Ne.symm hne)).trans q, hne, hai, hae⟩, fun b hb => ?_⟩
    · have e1 : k + ((i + 1 : Nat) : Int) = k + (i : Int) + 1 := by omega
      rw [e1]; exact he'
    · have hb' : b < s.heap.objs.size := by
        have e' : b = e ∨ b = it := by simpa using hb
        rcases e' with z | z
        · rw [z]; exact hel
        · rw [z]; exact hil
      rw [upd_ne (Nat.ne_of_lt hb')]
      exact (hf b hb).1
  done := by
    intro X hP hw hK hc i pins s σ H E I hf st hg
    subst hP hw hK
    obtain ⟨⟨old, he⟩, hit, hne, hai, hae⟩ := st
    obtain ⟨xs, hq, hx⟩ := hg
    obtain ⟨its, rv, p, hz⟩ := I.tuple hq
    obtain ⟨f0, f1, f2, f3, f4, f5⟩ := hf it (by simp)
    have hl := rv.length
    have hn : i = its.toArray.size := by simp; omega
    subst hn
    exact wpAny_pyNext_enum_endD (Draws.tuple (show X.A.in1.handled = none from I.ok.hd hc) it a hai its.toArray) he ⟨hit, p⟩ fun h' eb => ⟨rfl, I.turned (t' := s.toks) (fun b o hb q => eb b o hb q) f0 f1 f3 f4 f5⟩
  self := fun A i s Q E st h => let ⟨⟨_, he⟩, _⟩ := st; wpAny_pyIter_enum he h
def iEnumS (K : PySem.W.Frag) (ta tk : TA) : TI := fun σ H R => ta σ H fun vs H1 => tk σ H1 fun zs H2 => ∃ a xs k, vs = [.ref a] ∧ zs = [.int k] ∧ -(2 ^ 62) ≤ k ∧ k < 2 ^ 62 ∧ ((SqL K H2 a xs ∧ R (IteS K a k) H2) ∨ (SqT K H2 a xs ∧ R (IteT K a k) H2))
theorem pi_enumS {X : Cx} {e : Expr} {ta tk : TA} {kws : List Keyword} {p pos tpos : Pos} {elts : List Expr} {kk : Nat} (hg : Gl X "enumerate") (hm : X.mg "enumerate" = none) (ha : PA X [e] ta) (hkw : PK X kws tk)
    (he : backTo pos (starEach (e :: []) X.env) = (false, eval e X.env) :: backTo pos (starEach [] X.env) := by rfl) (hpl : (backTo pos (starEach (e :: []) X.env)).any (·.1) = false := by rfl)
    (hall : (backToKw pos (keywordEach kws X.env)).all (·.1.isSome) = true := by rfl) (hnone : (backToKw pos (keywordEach kws X.env)).any (·.1.isNone) = false := by rfl) (hks : (backToKw pos (keywordEach kws X.env)).filterMap (·.1) = [Str.ofString "start"] := by rfl) :
    PI X (.Tuple elts kk tpos) (.Call (.Name "enumerate" p) [e] kws pos) (iEnumS X.K ta tk) := by
  refine ⟨fun pins s σ H R I h => ?_⟩
  refine wpAny_Call_Name_kw (ld_blt I hg hm boot_enumerate ?_)
  refine callWith_typeK (thn (ha.run pos pins s σ H _ I h) fun us s1 ⟨vs, H1, I1, r1, q1⟩ => thn (hkw.run pos pins s1 σ H1 _ I1 q1) fun ws s2 ⟨zs, H2, I2, r2, q2⟩ => ?_) he hpl hall hnone
  rw [hks]
  obtain ⟨a, xs, k, ex, ez, k0, k1, hq⟩ := q2
  subst ex ez
  have wk : -(2 ^ 63) ≤ k ∧ k < 2 ^ 63 := by omega
  cases r2 with
  | cons rz rr2 =>
  cases rr2
  obtain ⟨t, rfl⟩ := rz
  cases r1 with
  | cons r rr =>
    cases rr
    cases r
    have hle : ∀ b, b = s2.heap.objs.size + 1 ∨ b = s2.heap.objs.size → s2.heap.objs.size ≤ b := fun b e => by
      rcases e with z | z
      · rw [z]; exact Nat.le_add_right _ _
      · rw [z]; exact Nat.le_refl _
    rcases hq with ⟨hq, q⟩ | ⟨hq, q⟩
    · obtain ⟨its, rv, p', hz⟩ := I2.list hq
      have la : a < s2.heap.objs.size := p'.lt
      refine enum_begins_start (begins_list a its.toArray) p'.isList wk.1 wk.2 fun h' he hit hsz hk => wpAny_pyIter_enum he ?_
      have I3 : L2.Inv X pins σ H2 { s2 with heap := h' } := I2.kept (t' := s2.toks) hk
      refine ⟨s2.heap.objs.size + 1, [s2.heap.objs.size + 1, s2.heap.objs.size], _, _, H2, rfl, I3, turn_enumS a (s2.heap.objs.size + 1) s2.heap.objs.size k, ⟨⟨.none, by simpa using he⟩, ⟨_, hit, rfl, rfl⟩, Nat.succ_ne_self _, Nat.ne_of_lt la, fun z => by rw [z] at la; exact absurd la (Nat.not_lt.mpr (Nat.le_succ _))⟩, fun b hb => ?_, q⟩
      have := hle b (by simpa using hb)
      exact I2.fpOk this (I2.hok.fresh this)
    · obtain ⟨its, rv, p', hz⟩ := I2.tuple hq
      have la : a < s2.heap.objs.size := by obtain ⟨o, e, _⟩ := p'; exact Heap.lt_size e
      refine enum_begins_start (begins_tuple a its.toArray) p' wk.1 wk.2 fun h' he hit hsz hk => wpAny_pyIter_enum he ?_
      have I3 : L2.Inv X pins σ H2 { s2 with heap := h' } := I2.kept (t' := s2.toks) hk
      refine ⟨s2.heap.objs.size + 1, [s2.heap.objs.size + 1, s2.heap.objs.size], _, _, H2, rfl, I3, turn_enumT a (s2.heap.objs.size + 1) s2.heap.objs.size k, ⟨⟨.none, by simpa using he⟩, ⟨_, hit, rfl, rfl⟩, Nat.succ_ne_self _, Nat.ne_of_lt la, fun z => by rw [z] at la; exact absurd la (Nat.not_lt.mpr (Nat.le_succ _))⟩, fun b hb => ?_, q⟩
      have := hle b (by simpa using hb)
      exact I2.fpOk this (I2.hok.fresh this)
end
section
variable {K : PySem.W.Frag} {H1 : Hp} {L : List (Addr × Ob)} {P : List Pf}
variable {g : TG} {te : TE} {tt : TT} {wv : List Nat} {σ : L2.St} {D : Addr} {Qd : Hp → Prop}
/-- sifted: of those of zs that t takes, data -/
theorem lc_siftD {α : Type} {J : It} {G : Hp → Prop} {Y : Nat → Hp → V → Hp → Prop} (zs : List α) (dat : α → PyData) (t : α → Bool) (w : Walk J zs.length G Y) (h : Own K H1 L P) (hD : H1 D = none) (hz : zs.length ≤ 10000)
    (ha : ∀ (H : Hp) (L' : List (Addr × Ob)) (P' : List Pf), (∀ p ∈ L, p ∈ L') → Ps P P' → Own K H L' P' → G H)
    (hs : ∀ (i : Nat) (z : α) (x : V) (H H' : Hp) (P' : List Pf) (ds : List PyData) (Qn : Hp → Prop) (Qy : VK), zs[i]? = some z → Y i H x H' → Ps P P' → Own K H ((D, .L ds) :: L) P' →
      (t z = false → ∀ (H'' : Hp) (P'' : List Pf), Ps P' P'' → Own K H'' ((D, .L ds) :: L) P'' → Qn H'') →
      (t z = true → ∀ (y : V) (H'' : Hp) (P'' : List Pf), Ps P' P'' → Own K H'' ((D, .L ds) :: L) P'' → Dv1 K P'' y (dat z) → Qy y H'') → g x (wipe σ wv) H' fun σ2 H2 => wipe σ2 wv = wipe σ wv ∧ tt σ2 H2 fun b H3 => if b = true then te σ2 H3 Qy else Qn H3)
    (hd : ∀ (H' : Hp) (P' : List Pf), Ps P P' → Own K H' ((D, .L ((zs.filter t).map dat)) :: L) P' → Qd H') :
    ∃ W : Nat → Nat → Hp → Prop, (∃ m, W 0 m (upd H1 D (.lst []))) ∧ ∀ i m H, W i m H →
      (J.stop i H ∧ Qd H) ∨ (J.go i H ∧ ∃ Nx : Hp → Prop, (∀ H', Nx H' → ∃ m', m' < m ∧ W (i + 1) m' H') ∧ ∀ x H', J.yld i H x H' → g x (wipe σ wv) H' fun σ2 H2 => wipe σ2 wv = wipe σ wv ∧ tt σ2 H2 fun b H3 =>
        if b = true then te σ2 H3 fun y H4 => ∃ acc, H4 D = some (.lst acc) ∧ acc.length < sizeLine ∧ Nx (upd H4 D (.lst (acc ++ [y]))) else Nx H3) := by
  refine lc_it w (fun i H => ∃ P', Ps P P' ∧ Own K H ((D, .L (((zs.take i).filter t).map dat)) :: L) P') ⟨P, Ps.refl, ?_⟩ (fun i H _ ⟨P', s, q⟩ => ha H _ P' (fun p m => List.mem_cons_of_mem _ m) s q) (fun i x H H' hi ⟨P', s, q⟩ y => ?_) (fun H ⟨P', s, q⟩ => hd H P' s (by rw [List.take_of_length_le (Nat.le_refl _)] at q; exact q))
  · have h2 := h.new hD (o := .lst []) rfl
    exact h2.closeL (vs := []) List.mem_cons_self (by rw [List.take_zero]; exact Dv.nil) .head
  · have et : zs.take (i + 1) = zs.take i ++ [zs[i]] := by rw [List.take_add_one, List.getElem?_eq_getElem hi]; rfl
    refine hs i zs[i] x H H' P' _ _ _ (List.getElem?_eq_getElem hi) y s q (fun tn H'' P'' s' q' => ⟨P'', fun r m => s' r (s r m), ?_⟩) (fun ty y H'' P'' s' q' dv => ?_)
    · rw [et, List.filter_append, List.filter_cons, tn]; simpa using q'
    · obtain ⟨vs, ev, dvs⟩ := q'.lst List.mem_cons_self
      have len := dvs.len
      have hlen : vs.length ≤ 10000 := by
        rw [len, List.length_map]
        exact Nat.le_trans (List.length_filter_le _ _) (by rw [List.length_take]; omega)
      refine ⟨vs, ev, size_lt hlen, P'', fun r m => s' r (s r m), ?_⟩
      have e2 : ((zs.take (i + 1)).filter t).map dat = ((zs.take i).filter t).map dat ++ [dat zs[i]] := by rw [et, List.filter_append, List.filter_cons, ty]; simp
      rw [e2]
      exact own_app (i := i) q' ev dv
end
end Hx

set_option Elab.async false
set_option linter.all false
set_option maxRecDepth 100000
set_option maxHeartbeats 4000000
/-! HsEnumP: enumerate(xs) over a list or a tuple, without a start -/
namespace Hx
open PySem PySem.Spec PyProof.Rows L2
def enumCell (it : Nat) : Obj := { cls := .type "enumerate", data := .fields #[.none, .bool false, .ref it, rawInt 0, .none, .none] }
theorem enumNew1 {u : Value} {ob : Obj} {Z : Heap → Prop} (BB : Begins u ob Z) : Meets (Builtin.«enumerate.__new__» ⟨[.type "enumerate", u], []⟩) (fun _ R sh => Z sh.heap ∧ R (.ok (.ret (.ref (sh.heap.push ob).objs.size))) { sh with heap := (sh.heap.push ob).push (enumCell sh.heap.objs.size) }) := by
  refine .of_wp fun pr wo Ar Rr sh hh => ?_
  obtain ⟨hea, glo, dra, tks, oss⟩ := sh
  obtain ⟨hz1, hh⟩ := hh
  have hsubE := sub_enumerate
  have goOn : ∀ {Ar' : Around} {Er : Value → Shared → Prop} {Qr : Value → Shared → Prop}, Qr (.ref hea.objs.size) ⟨hea.push ob, glo, dra, tks, oss⟩ → wpAny (model pr wo) Ar' (pyIter u) Qr Er ⟨hea, glo, dra, tks, oss⟩ := fun qq => BB.iter pr wo _ _ ⟨hea, glo, dra, tks, oss⟩ _ hz1 qq
  wp_walk using goOn
  refine wpAny_stack_any fun stk => wpAny_pure ?_
  split
  · rename_i cl _ _ _ _ _
    cases (cl == Value.type "enumerate")
    · wp_walk using goOn
      exact ⟨_, rfl, hh⟩
    · wp_walk using goOn
      exact ⟨_, rfl, hh⟩
  · wp_walk using goOn
    exact ⟨_, rfl, hh⟩
theorem enumCall1 {prog : Program} {w : World} {A : Around} {E : Value → Shared → Prop} {s : Shared} {u : Value} {ob : Obj} {Z : Heap → Prop} {Q : Value → Shared → Prop} (BB : Begins u ob Z) (hz1 : Z s.heap)
    (hq : ∀ hn, IsEnum hn (s.heap.objs.size + 1) s.heap.objs.size 0 .none → hn.get? s.heap.objs.size = some ob → hn.objs.size = s.heap.objs.size + 2 → (∀ b q, s.heap.get? b = some q → hn.get? b = some q) → Q (.ref (s.heap.objs.size + 1)) { s with heap := hn }) :
    wpAny (model prog w) A (call (.type "enumerate") [u]) Q E s := by
  refine callType_new F.called_enumerate (by decide) (F.typeCall_enumerate_1 _) (F.newCall_enumerate_1 _) (fun ob2 => F.args_object_init_2 ob2 _) F.entry_enumerate_new (enumNew1 BB) ⟨hz1, ?_⟩
  have sz : (s.heap.push ob).objs.size = s.heap.objs.size + 1 := Heap.size_push ..
  show _ ∧ _
  rw [sz]
  have hen : IsEnum ((s.heap.push ob).push (enumCell s.heap.objs.size)) (s.heap.objs.size + 1) s.heap.objs.size 0 .none := by
    have h9 := Heap.get?_push_size (s.heap.push ob) (o := enumCell s.heap.objs.size) rfl
    rw [sz] at h9
    exact h9
  exact ⟨⟨_, hen, rfl⟩, hq _ hen (Heap.get?_push_of_some _ (Heap.get?_push_size _ BB.free)) (by rw [Heap.size_push, sz]) fun b q x => Heap.get?_push_of_some _ (Heap.get?_push_of_some _ x)⟩
def iEnumP (K : PySem.W.Frag) (ta : TA) : TI := fun σ H R => ta σ H fun vs H1 => ∃ a xs, vs = [.ref a] ∧ ((SqL K H1 a xs ∧ R (IteS K a 0) H1) ∨ (SqT K H1 a xs ∧ R (IteT K a 0) H1))
theorem pi_enumP {X : Cx} {e : Expr} {ta : TA} {p pos tpos : Pos} {elts : List Expr} {kk : Nat} (hg : Gl X "enumerate") (hm : X.mg "enumerate" = none) (ha : PA X [e] ta) (hs : starEach [e] X.env = [(false, eval e X.env)] := by rfl) :
    PI X (.Tuple elts kk tpos) (.Call (.Name "enumerate" p) [e] [] pos) (iEnumP X.K ta) := by
  refine ⟨fun pins s σ H R I h => ?_⟩
  refine Call_ (ld_blt I hg hm boot_enumerate (PyProof.Rows.callWith_type1 (thn (ha.run pos pins s σ H _ I h) fun us s2 ⟨vs, H2, I2, r1, q1⟩ => ?_) hs rfl))
  obtain ⟨a, xs, ex, hq⟩ := q1
  subst ex
  cases r1 with
  | cons r rr =>
    cases rr
    cases r
    have hle : ∀ b, b = s2.heap.objs.size + 1 ∨ b = s2.heap.objs.size → s2.heap.objs.size ≤ b := fun b e => by
      rcases e with z | z <;> rw [z]
      · exact Nat.le_add_right _ _
      · exact Nat.le_refl _
    rcases hq with ⟨hq, q⟩ | ⟨hq, q⟩
    · obtain ⟨its, rv, p', hz⟩ := I2.list hq
      have la : a < s2.heap.objs.size := p'.lt
      refine enumCall1 (begins_list a its.toArray) p'.isList fun h' he hit hsz hk => wpAny_pyIter_enum he ?_
      have I3 : L2.Inv X pins σ H2 { s2 with heap := h' } := I2.kept (t' := s2.toks) hk
      refine ⟨s2.heap.objs.size + 1, [s2.heap.objs.size + 1, s2.heap.objs.size], _, _, H2, rfl, I3, turn_enumS a (s2.heap.objs.size + 1) s2.heap.objs.size 0, ⟨⟨.none, by simpa using he⟩, ⟨_, hit, rfl, rfl⟩, Nat.succ_ne_self _, Nat.ne_of_lt la, fun z => by rw [z] at la; exact absurd la (Nat.not_lt.mpr (Nat.le_succ _))⟩, fun b hb => ?_, q⟩
      have := hle b (by simpa using hb)
      exact I2.fpOk this (I2.hok.fresh this)
    · obtain ⟨its, rv, p', hz⟩ := I2.tuple hq
      have la : a < s2.heap.objs.size := by obtain ⟨o, e, _⟩ := p'; exact Heap.lt_size e
      refine enumCall1 (begins_tuple a its.toArray) p' fun h' he hit hsz hk => wpAny_pyIter_enum he ?_
      have I3 : L2.Inv X pins σ H2 { s2 with heap := h' } := I2.kept (t' := s2.toks) hk
      refine ⟨s2.heap.objs.size + 1, [s2.heap.objs.size + 1, s2.heap.objs.size], _, _, H2, rfl, I3, turn_enumT a (s2.heap.objs.size + 1) s2.heap.objs.size 0, ⟨⟨.none, by simpa using he⟩, ⟨_, hit, rfl, rfl⟩, Nat.succ_ne_self _, Nat.ne_of_lt la, fun z => by rw [z] at la; exact absurd la (Nat.not_lt.mpr (Nat.le_succ _))⟩, fun b hb => ?_, q⟩
      have := hle b (by simpa using hb)
      exact I2.fpOk this (I2.hok.fresh this)
end Hx

set_option Elab.async false
set_option linter.all false
set_option maxRecDepth 100000
set_option maxHeartbeats 1000000
/-! del xs[a:]; xs[:] = ys; xs.remove(x) of data -/
namespace Hx
open PySem PySem.Spec PyProof.Rows L2
theorem hu65 {A : Around} {k : Nat} (hr : Room k A) : A.units + 65 < cLine := by have := hr.un; omega
section
variable {prog : Program} {w : World} {A : Around} {E : Value → Shared → Prop} {s : Shared}
theorem zip_all {f : Value × Nat → Option Value} : ∀ (l : List Value) (j : Nat), (∀ k x, j ≤ k → k < j + l.length → f (x, k) = some x) → (l.zipIdx j).filterMap f = l
  | [], _, _ => rfl
  | x :: l, j, h => by
    rw [List.zipIdx_cons, List.filterMap_cons, h j x (Nat.le_refl _) (by simp)]
    show x :: _ = x :: l
    rw [zip_all l (j + 1) fun k y h1 h2 => h k y (by omega) (by simp only [List.length_cons]; omega)]
theorem zip_none {f : Value × Nat → Option Value} : ∀ (l : List Value) (j : Nat), (∀ k x, j ≤ k → k < j + l.length → f (x, k) = none) → (l.zipIdx j).filterMap f = []
  | [], _, _ => rfl
  | x :: l, j, h => by
    rw [List.zipIdx_cons, List.filterMap_cons, h j x (Nat.le_refl _) (by simp)]
    show _ = []
    exact zip_none l (j + 1) fun k y h1 h2 => h k y (by omega) (by simp only [List.length_cons]; omega)
theorem zip_cut {f : Value × Nat → Option Value} {its : List Value} {a : Nat} (h : a ≤ its.length)
    (hf : ∀ x k, f (x, k) = if (decide ((a : Int) ≤ (k : Int)) && decide ((k : Int) < (its.length : Int)) && (((k : Int) - (a : Int)) % 1 == 0)) = true then none else some x) : its.zipIdx.filterMap f = its.take a := by
  have e := List.take_append_drop a its
  conv => lhs; rw [← e, List.zipIdx_append, List.filterMap_append]
  rw [zip_all (its.take a) 0 fun k x h1 h2 => by
    rw [hf, if_neg]
    rw [List.length_take] at h2
    simp only [Bool.and_eq_true, decide_eq_true_eq, not_and]
    omega, zip_none (its.drop a) _ fun k x h1 h2 => by
    rw [hf, if_pos]
    rw [List.length_take] at h1 h2
    rw [List.length_drop] at h2
    simp only [Bool.and_eq_true, decide_eq_true_eq, beq_iff_eq]
    omega, List.append_nil]
theorem take_min {α : Type} (l : List α) (a : Nat) : l.take (min a l.length) = l.take a := by
  rcases Nat.le_total a l.length with h | h
  · rw [Nat.min_eq_left h]
  · rw [Nat.min_eq_right h, List.take_length, List.take_of_length_le h]
theorem bounds_from {a n : Nat} : sliceBounds (some (a : Int)) none none n = (((min a n : Nat) : Int), (n : Int), 1) := by
  simp only [sliceBounds, Option.getD_none]
  have h1 : ¬ ((a : Int) < 0) := by omega
  simp only [h1, if_false, show (1 : Int) > 0 by decide, if_true]
  congr 1
  omega
theorem delItem_cut {l sl : Addr} {items : List Value} {n : Nat} {vl vu : Value} {a : Nat} {Q : Unit → Shared → Prop}
    (e : s.heap.get? l = some { cls := .type "list", data := .seq items.toArray n })
    (hs : s.heap.IsSliceOf sl vl vu .none) (pl : IsPart vl (some (a : Int))) (pu : IsPart vu none)
    (hsz : items.length ≤ sizeLine) (h : ∀ f : Array Value → Array Value, f items.toArray = (items.take a).toArray → Q () { s with heap := s.heap.update l (Obj.mapSeq f) }) :
    wpAny (model prog w) A (delItem (.ref l) (.ref sl)) Q E s := by
  have hl : s.heap.IsList l items.toArray := PySem.IsL.isList e
  obtain ⟨os, hos, hcs, hds⟩ := id hs
  have hTs : s.TypeIs (.ref sl) "slice" := ⟨os, hos, hcs⟩
  have hstep : ¬ ((rawPart none == rawInt 0) = true) := Bool.false_ne_true
  refine wpAny_delItem_slot hl.typeIs (by decide) F.slot_list_delitem ?_
  refine wpAny_call_entry F.slot_list_delitem hl.typeIs F.entry_list_delitem ?_ (F.args_list_delitem_2 _ _)
  show wpAny _ _ (Builtin.List.listSubscript? (.ref sl) >>= _) _ _ s
  refine wpAny_bind ?_
  unfold Builtin.List.listSubscript?
  refine wpAny_bind (wpAny_specialOf hTs slice_no_index ?_)
  simp only [Option.isNone_none, if_true]
  refine wpAny_pure ?_
  show wpAny _ _ (typeOf (.ref sl) >>= _) _ _ s
  refine wpAny_bind (wpAny_typeOf hTs ?_)
  first
    | rw [if_neg (by decide)]
    | refine PySem.W.KFB.if_not (by decide) ?_
  rw [listSliceParts_eq]
  refine wpAny_bind (wpAny_bind (wpAny_field hos hds (x := .none) rfl (wpAny_bind (wpAny_listPart .none ?_))))
  rw [if_neg hstep]
  refine wpAny_bind (wpAny_field hos hds (x := vl) rfl (wpAny_bind (wpAny_listPart pl ?_)))
  refine wpAny_bind (wpAny_field hos hds (x := vu) rfl (wpAny_bind (wpAny_listPart pu (wpAny_pure ?_))))
  refine wpAny_bind (wpAny_bind (wpAny_seqItems e rfl (wpAny_pure ?_)))
  refine wpAny_bind (wpAny_of_eq ((sliceIndices_raw (some (a : Int)) none none items.toArray.size (by simp)).trans (congrArg (pure : Int × Int × Int → Sem (Int × Int × Int)) (bounds_from (a := a)))) ?_)
  refine wpAny_bind (wpAny_rule ?_)
  have key : ∀ (α : Type) (f : Array Value → Array Value) (m : Sem α) (R : α → Shared → Prop), f items.toArray = (items.take a).toArray → wpAny (model prog w) A.in1 m R E { s with heap := s.heap.update l (Obj.mapSeq f) } → wpAny (model prog w) A.in1 (Builtin.List.listUpdate (.ref l) f >>= fun _ => m) R E s := by
    intro α f m R hf hm
    have hz' : (f items.toArray).size ≤ sizeLine + 1 := by
      rw [hf, List.size_toArray, List.length_take]
      omega
    exact wpAny_bind (wpAny_updateSeq (hz := by rw [List.size_toArray]; exact hsz) (_hz' := hz') e rfl hm)
  have hfe := fun (f : Value × Nat → Option Value) (hf : ∀ x k, f (x, k) = if (decide (((min a items.length : Nat) : Int) ≤ (k : Int)) && decide ((k : Int) < (items.length : Int)) && (((k : Int) - ((min a items.length : Nat) : Int)) % 1 == 0)) = true then none else some x) => (congrArg List.toArray ((zip_cut (Nat.min_le_right _ _) hf).trans (take_min _ _)) : (items.zipIdx.filterMap f).toArray = (items.take a).toArray)
  refine key _ _ _ _ (hfe _ fun x k => rfl) ?_
  refine wpAny_bind (wpAny_letGo ?_)
  exact wpAny_pure ⟨.none, rfl, h _ (hfe _ fun x k => rfl)⟩
end
section
variable {X : Cx}
/-- del xs[a:] -/
def tDelF (to : TE) (tl : TO) : TS := fun D σ H => to σ H fun x H1 => tl σ H1 fun o H2 => ∃ (l : Addr) (xs : List V) (a : Nat), x = .ref l ∧ o = some (a : Int) ∧ H2 l = some (.lst xs) ∧ D.nx σ (upd H2 l (.lst (xs.take a)))
theorem ps_delF {o lo : Expr} {to : TE} {tl : TO} {tpos p2 pos : Pos} (ho : PE X o to) (hl : PO X (some lo) tl) : PS X (.Delete [.Subscript o (.Slice (some lo) none none p2) tpos] pos) (tDelF to tl) := by
  refine ⟨fun pins s σ H D I h => ?_⟩
  refine wpAny_Delete (wpAny_deleteEach_cons (wpAny_delete_Subscript (thn (ho.run pins s σ H _ I h) fun u s1 ⟨x, H1, I1, rx, q1⟩ => ?_)))
  refine wpAny_Slice (thn (hl.run pins s1 σ H1 _ I1 q1) fun vl s2 ⟨l, H2, I2, pl, q2⟩ => ?_)
  rw [evalPart_none]
  refine wpAny_pure ?_
  refine wpAny_pure ?_
  obtain ⟨b, xs, a, rfl, rfl, hH, q2⟩ := q2
  cases (show u = Value.ref b from rx)
  have I4 : Inv X pins σ H2 { s2 with heap := s2.heap.push { cls := .type "slice", data := .fields #[vl, .none, .none] } } := I2.kept (t' := s2.toks) fun b ob q => Heap.get?_push_of_some _ q
  obtain ⟨z, its, n, r, hl, e⟩ := I4.lstM hH
  refine delItem_cut (a := a) e (Heap.IsSliceOf.new ..) pl .none (by omega) fun f hf => ?_
  refine wpAny_deleteEach_nil ⟨σ, _, I4.lset (its' := its.take a) (t' := s2.toks) hH e hf (r.take _) ?_, q2⟩
  rw [List.length_take]
  omega
end
end Hx
namespace PySem
open MeetsSeq SeqAt
theorem hx_removeAt (l : Addr) (items : Array Value) (n : Nat) (x : Value) (e : Value → Bool) (j : Nat) (hj : j < items.size) (hit : e items[j] = true) (hs1 : items.size ≤ sizeLine) (k : Nat) :
    ∀ i : Nat, j - i = k → i ≤ j → (∀ m (hm : m < items.size), i ≤ m → m < j → e items[m] = false) → Meets (Builtin.«list.remove.loop» ⟨[.ref l, x, rawInt i], []⟩)
      (fun A R s => s.heap.get? l = some { cls := .type "list", dict := none, data := .seq items n, slots := #[] } ∧ (∀ y, y ∈ items → EqAt A.in1 s y x (e y)) ∧ R (.ok (.ret .none)) { s with heap := s.heap.update l (Obj.mapSeq fun xs => xs.eraseIdxIfInBounds j) }) := by
  induction k with
  | zero =>
    intro i hk hij hno prog w A R s h
    obtain ⟨hp, g, d, tk, os⟩ := s; obtain ⟨hl, he, h⟩ := h
    have hij' : i = j := by omega
    subst hij'
    wp_walk using wpAny_loadPart' hl
    have hi : items[((i : Nat) : Int).toNat]? = some items[i] := by simp [hj]
    rw [hi]
    refine wpAny_bind (he _ (Array.getElem_mem hj) prog w _ _ ?_)
    rw [hit]
    have hz' : (items.eraseIdxIfInBounds i).size ≤ sizeLine + 1 := Nat.le_trans (size_erased items _) (Nat.le_succ_of_le hs1)
    wp_walk using (wpAny_updateSeq hl rfl (hz := hs1) (_hz' := hz')), wpAny_loadPart' hl
    simpa using h
  | succ k ih =>
    intro i hk hij hno prog w A R s h
    obtain ⟨hp, g, d, tk, os⟩ := s; obtain ⟨hl, he, h⟩ := h
    have hlt : i < items.size := by omega
    wp_walk using wpAny_loadPart' hl
    have hi : items[((i : Nat) : Int).toNat]? = some items[i] := by simp [hlt]
    have hc : ((i : Int) + 1) = ((i + 1 : Nat) : Int) := by push_cast; rfl
    rw [hi]
    refine wpAny_bind (he _ (Array.getElem_mem hlt) prog w _ _ ?_)
    rw [hno i hlt (Nat.le_refl _) (by omega)]
    wp_walk
    rw [hc]
    exact ⟨plainId_quiet plain_remove_loop _, codeAny_builtin entry_remove_loop (by
      rw [Around.under_plainId plain_remove_loop _]
      exact ih (i + 1) (by omega) (by omega) (fun m hm h1 h2 => hno m hm (by omega) h2) prog w A R _ ⟨hl, he, h⟩)⟩
theorem hx_remove (l : Addr) (items : Array Value) (n : Nat) (x : Value) (e : Value → Bool) (j : Nat) (hj : j < items.size)
    (hit : e items[j] = true) (hno : ∀ m (hm : m < items.size), m < j → e items[m] = false) (hs1 : items.size ≤ sizeLine) :
    Meets (Builtin.«list.remove» ⟨[.ref l, x], []⟩)
      (fun A R s => s.heap.get? l = some { cls := .type "list", dict := none, data := .seq items n, slots := #[] } ∧ (∀ y, y ∈ items → EqAt A.in1 s y x (e y)) ∧ R (.ok (.ret .none)) { s with heap := s.heap.update l (Obj.mapSeq fun xs => xs.eraseIdxIfInBounds j) }) := by
  intro prog w A R s h
  obtain ⟨hp, g, d, tk, os⟩ := s; obtain ⟨hl, he, h⟩ := h
  wp_walk using wpAny_loadPart' hl
  exact ⟨plainId_quiet plain_remove_loop _, codeAny_builtin entry_remove_loop (by
    rw [Around.under_plainId plain_remove_loop _]
    exact hx_removeAt l items n x e j hj hit hs1 _ 0 rfl (Nat.zero_le _) (fun m hm _ h2 => hno m hm h2) prog w A R _ ⟨hl, he, h⟩)⟩
end PySem
namespace Hx
open PySem PySem.Spec PyProof.Rows L2
section
variable {X : Cx}
/-- l.remove(x): the first of the same data -/
def rRemD (K : PySem.W.Frag) : V → List V → Hp → VK → Prop := fun x xs H Q => ∃ (a : Addr) (vs : List V) (y : V) (d : PyData) (ds : List PyData) (j : Nat) (z : PyData), x = V.ref a ∧ xs = [y] ∧ H a = some (.lst vs) ∧ DpAll K H vs ds ∧ Dp K H y d ∧
  SeqAt.shaped (.list ds) = true ∧ SeqAt.shaped d = true ∧ ds[j]? = some z ∧ PyData.eqv z d = true ∧ (∀ (m : Nat) (z' : PyData), m < j → ds[m]? = some z' → PyData.eqv z' d = false) ∧ Q .non (upd H a (.lst (vs.eraseIdx j)))
theorem mt_remD (hu : X.A.units + 65 < cLine) : MtM X "list.remove" (rRemD X.K) := by
  intro pins s σ H x xs v us Q I rx rxs h
  obtain ⟨a, vs, y, d, ds, j, z, rfl, rfl, hH, hl, hy, sl, sd, hz, hzj, hno, q⟩ := h
  cases rx
  obtain ⟨uy, rfl, ry⟩ := rxs.one
  obtain ⟨bs, r1⟩ := Dp.reads I d y uy hy ry
  have hxs : PyData.canLayAll0 ds = true := SeqAt.canLay_of_shaped sl
  have hroom : X.A.units + 1 + min (PyData.depthAll ds) d.depth < cLine := room_in_shaped sd hu
  obtain ⟨hsz, its, n, rv, hlen, ho⟩ := I.lstM hH
  obtain ⟨as, h4⟩ := Dp.readsAll I ds _ its hl rv
  have hn : its.length = ds.length := SeqAt.ReadsAll.length ds its as h4
  have hmap : its.map (SeqAt.readOf s.heap) = ds := SeqAt.readsAll_map ds its as hxs h4
  obtain ⟨hjd, _⟩ := List.getElem?_eq_some_iff.mp hz
  have hjl : j < its.length := by omega
  have hj : j < its.toArray.size := by simpa using hjl
  have at_ : ∀ (m : Nat) (hm : m < its.toArray.size) (z' : PyData), ds[m]? = some z' → SeqAt.readOf s.heap its.toArray[m] = z' := by
    intro m hm z' hz'
    have hml : m < its.length := by simpa using hm
    rw [← hmap, List.getElem?_map, List.getElem?_eq_getElem hml] at hz'
    have e1 : SeqAt.readOf s.heap its[m] = z' := Option.some.inj (show some (SeqAt.readOf s.heap its[m]) = some z' from hz')
    simpa using e1
  refine call_meets PySem.F.slot_list_remove ⟨_, ho, rfl⟩ PySem.F.entry_list_remove (PySem.F.args_list_remove_2 _ _)
    (hx_remove a its.toArray n uy (fun u => PyData.eqv (SeqAt.readOf s.heap u) d) j hj ?_ ?_ (by rw [List.size_toArray]; omega)) ⟨ho, SeqAt.items_eqAt (vs := its.toArray) (show ReadsAll s.heap its.toArray.toList ds as from h4) r1 hxs (SeqAt.canLay_of_shaped sd) hroom, ?_⟩
  · show PyData.eqv (SeqAt.readOf s.heap its.toArray[j]) d = true
    rw [at_ j hj z hz]
    exact hzj
  · intro m hm hmj
    have hmd : m < ds.length := by omega
    have hz' : ds[m]? = some ds[m] := List.getElem?_eq_getElem hmd
    show PyData.eqv (SeqAt.readOf s.heap its.toArray[m]) d = false
    rw [at_ m hm _ hz']
    exact hno m _ hmj hz'
  · refine ⟨.non, _, I.lset (its' := its.eraseIdx j) hH ho ?_ (rv.eraseIdx j) ?_, rfl, q⟩
    · show its.toArray.eraseIdxIfInBounds j = (its.eraseIdx j).toArray
      rw [List.eraseIdxIfInBounds_toArray]
    · have := len_erase vs j
      omega
end
section
variable {prog : Program} {w : World} {A : Around} {E : Value → Shared → Prop} {s : Shared}
theorem bounds_all (n : Nat) : sliceBounds none none none n = ((0 : Int), (n : Int), 1) := by
  simp only [sliceBounds, Option.getD_none, show (1 : Int) > 0 by decide, if_true]
theorem setItem_all {l b sl : Addr} {its its2 : List Value} {n n2 : Nat} {vl vu : Value} {Q : Unit → Shared → Prop}
    (e : s.heap.get? l = some { cls := .type "list", data := .seq its.toArray n }) (e2 : s.heap.get? b = some { cls := .type "list", data := .seq its2.toArray n2 }) (hne : l ≠ b)
    (hs : s.heap.IsSliceOf sl vl vu .none) (pl : IsPart vl none) (pu : IsPart vu none) (hz1 : its.length ≤ sizeLine) (hsz : its.length + its2.length ≤ sizeLine)
    (h : ∀ f : Array Value → Array Value, f its.toArray = its2.toArray → Q () { s with heap := s.heap.update l (Obj.mapSeq f) }) :
    wpAny (model prog w) A (setItem (.ref l) (.ref sl) (.ref b)) Q E s := by
  have hl : s.heap.IsList l its.toArray := PySem.IsL.isList e
  have hb : s.heap.IsList b its2.toArray := PySem.IsL.isList e2
  obtain ⟨os, hos, hcs, hds⟩ := id hs
  have hTs : s.TypeIs (.ref sl) "slice" := ⟨os, hos, hcs⟩
  have hstep : ¬ ((rawPart none == rawInt 0) = true) := Bool.false_ne_true
  have hsame : Builtin.List.listSameRef (.ref l) (.ref b) = false := beq_eq_false_iff_ne.mpr hne
  unfold setItem
  refine wpAny_holding ?_
  refine wpAny_bind (wpAny_sequenceKey hl.typeIs (by decide) ?_)
  refine wpAny_bind (wpAny_callSpecial?_slot (name := Str.ofString "__setitem__") hl.typeIs F.slot_list_setitem
    (wpAny_call_entry F.slot_list_setitem hl.typeIs F.entry_list_setitem ?_ (F.args_list_setitem_3 _ _ _)))
  refine wpAny_bind (m := Builtin.List.listSubscript? (.ref sl)) ?_
  unfold Builtin.List.listSubscript?
  refine wpAny_bind (wpAny_specialOf hTs slice_no_index ?_)
  simp only [Option.isNone_none, if_true]
  refine wpAny_pure ?_
  refine wpAny_bind (m := typeOf (.ref sl)) (wpAny_typeOf hTs ?_)
  first
    | rw [if_neg (by decide)]
    | refine PySem.W.KFB.if_not (by decide) ?_
  rw [listSliceParts_eq]
  refine wpAny_bind (wpAny_bind (wpAny_field hos hds (x := .none) rfl (wpAny_bind (wpAny_listPart .none ?_))))
  rw [if_neg hstep]
  refine wpAny_bind (wpAny_field hos hds (x := vl) rfl (wpAny_bind (wpAny_listPart pl ?_)))
  refine wpAny_bind (wpAny_field hos hds (x := vu) rfl (wpAny_bind (wpAny_listPart pu (wpAny_pure ?_))))
  first
    | simp only [hsame, Bool.false_eq_true, if_false]
    | refine PySem.W.KFB.if_not hsame ?_
  refine wpAny_bind (m := Builtin.List.listAllItems (.ref b) "must assign iterable to extended slice") ?_
  unfold Builtin.List.listAllItems
  refine wpAny_bind (wpAny_typeOf hb.typeIs ?_)
  first
    | refine PySem.W.KFB.if_so (by decide) ?_
    | rw [if_pos (by decide)]
  refine wpAny_bind (wpAny_seqItems e2 rfl (wpAny_pure ?_))
  refine wpAny_bind (wpAny_bind (wpAny_seqItems e rfl (wpAny_pure ?_)))
  refine wpAny_bind (wpAny_of_eq ((sliceIndices_raw none none none its.toArray.size (by simp)).trans (congrArg (pure : Int × Int × Int → Sem (Int × Int × Int)) (bounds_all _))) ?_)
  refine PySem.W.KFB.if_so rfl ?_
  refine wpAny_bind (wpAny_rule ?_)
  refine PySem.W.KFB.if_not (notLongL (by rw [List.size_toArray, List.size_toArray]; exact hsz)) ?_
  have key : ∀ (α : Type) (f : Array Value → Array Value) (m : Sem α) (R : α → Shared → Prop), f its.toArray = its2.toArray → wpAny (model prog w) A.in1 m R E { s with heap := s.heap.update l (Obj.mapSeq f) } → wpAny (model prog w) A.in1 (Builtin.List.listUpdate (.ref l) f >>= fun _ => m) R E s := by
    intro α f m R hf hm
    have hz' : (f its.toArray).size ≤ sizeLine + 1 := by
      rw [hf, List.size_toArray]
      omega
    exact wpAny_bind (wpAny_updateSeq (hz := by rw [List.size_toArray]; exact hz1) (_hz' := hz') e rfl hm)
  have hfe : (fun xs : Array Value => xs.extract 0 (0 : Int).toNat ++ its2.toArray ++ xs.extract (max (0 : Int) (its.toArray.size : Int)).toNat xs.size) its.toArray = its2.toArray := by
    have h1 : (max (0 : Int) (its.toArray.size : Int)).toNat = its.toArray.size := by omega
    show its.toArray.extract 0 (0 : Int).toNat ++ its2.toArray ++ its.toArray.extract (max (0 : Int) (its.toArray.size : Int)).toNat its.toArray.size = _
    rw [h1]
    apply Array.toList_inj.mp
    simp
  refine key _ _ _ _ hfe ?_
  refine wpAny_bind (wpAny_letGo ?_)
  exact wpAny_pure ⟨.none, rfl, wpAny_pure (h _ hfe)⟩
end
section
variable {X : Cx}
/-- xs[:] = of another list -/
def gSlAll (to : TE) : TG := fun v σ H Q => to σ H fun x H1 => ∃ (l b : Addr) (xs ys : List V), x = .ref l ∧ v = .ref b ∧ H1 l = some (.lst xs) ∧ H1 b = some (.lst ys) ∧ l ≠ b ∧ xs.length + ys.length ≤ sizeLine ∧ Q σ (upd H1 l (.lst ys))
theorem pg_slAll {o : Expr} {to : TE} {p2 pos : Pos} (ho : PE X o to) : PG X (.Subscript o (.Slice none none none p2) pos) (gSlAll to) := by
  refine ⟨fun pins s σ H v u Q I r h => ?_⟩
  rw [arm_assign_Subscript]
  refine wpAny_bind (wpAny_holding (thn (ho.run pins s σ H _ I h) fun ov s1 ⟨x, H1, I1, r1, q1⟩ => ?_))
  refine wpAny_bind (wpAny_holding ?_)
  refine wpAny_Slice ?_
  rw [evalPart_none]
  refine wpAny_pure ?_
  refine wpAny_pure ?_
  refine wpAny_pure ?_
  obtain ⟨l, b, xs, ys, rfl, rfl, hH, hB, hne, hz, q1⟩ := q1
  cases (show ov = Value.ref l from r1)
  cases (show u = Value.ref b from r)
  have I4 : Inv X pins σ H1 { s1 with heap := s1.heap.push { cls := .type "slice", data := .fields #[.none, .none, .none] } } := I1.kept (t' := s1.toks) fun b ob q => Heap.get?_push_of_some _ q
  obtain ⟨z, its, n, rv, hl, e⟩ := I4.lstM hH
  obtain ⟨z2, its2, n2, rv2, hl2, e2⟩ := I4.lstM hB
  refine wpAny_bind (wpAny_standAt (wpAny_bind (wpAny_holding (setItem_all e e2 hne (Heap.IsSliceOf.new ..) .none .none (by omega) (by omega) fun f hf => ?_))))
  refine wpAny_release ⟨σ, _, I4.lset (its' := its2) (t' := s1.toks) hH e hf rv2 ?_, q1⟩
  exact z2
/-- the same, where a walker stops -/
theorem mt_remS (hu : X.A.units + 65 < cLine) : MtM X "list.remove" (fun x xs H Q => Stop (rRemD X.K x xs H Q)) := fun pins s σ H x xs v us Q I rx rxs h => mt_remD hu pins s σ H x xs v us Q I rx rxs h.h
end
end Hx

set_option Elab.async false
set_option linter.all false
set_option maxRecDepth 100000
set_option maxHeartbeats 4000000
/-! HsKI: items of a table of the module; sorted lists of pairs (text, int), as data; sorted(d.items()); a constructor that may raise -/
namespace Hx
open PySem PySem.Spec PyProof.Rows L2 RZ
/-! ### a target of four names -/
theorem pg_quad {X : Cx} {i j l m : Nat} {x y z u : Str} {p1 p2 p3 p4 pos : Pos} {kk : Nat} (hc : X.calm = true) (hN : X.N.Nodup) (hi : X.N[i]? = some x) (hj : X.N[j]? = some y) (hl : X.N[l]? = some z) (hm : X.N[m]? = some u) (hx : Loc X.env.scope x) (hy : Loc X.env.scope y) (hz : Loc X.env.scope z) (hw : Loc X.env.scope u)
    (hf : X.fn x = true ∨ X.env.scope.names.lookup x = some .local := by first | exact .inl rfl | exact .inr rfl | assumption) (hf2 : X.fn y = true ∨ X.env.scope.names.lookup y = some .local := by first | exact .inl rfl | exact .inr rfl | assumption) (hf3 : X.fn z = true ∨ X.env.scope.names.lookup z = some .local := by first | exact .inl rfl | exact .inr rfl | assumption) (hf4 : X.fn u = true ∨ X.env.scope.names.lookup u = some .local := by first | exact .inl rfl | exact .inr rfl | assumption)
    (hn : (assignEach [Expr.Name x p1, .Name y p2, .Name z p3, .Name u p4] X.env).length = 4 := by rfl) (hst : (assignEach [Expr.Name x p1, .Name y p2, .Name z p3, .Name u p4] X.env).findIdx? (·.1) = none := by rfl)
    (hs : (assignEach [Expr.Name x p1, .Name y p2, .Name z p3, .Name u p4] X.env).map (·.2) = assign (.Name x p1) X.env :: (assignEach [Expr.Name y p2, .Name z p3, .Name u p4] X.env).map (·.2) := by rfl)
    (hs2 : (assignEach [Expr.Name y p2, .Name z p3, .Name u p4] X.env).map (·.2) = assign (.Name y p2) X.env :: (assignEach [Expr.Name z p3, .Name u p4] X.env).map (·.2) := by rfl)
    (hs3 : (assignEach [Expr.Name z p3, .Name u p4] X.env).map (·.2) = assign (.Name z p3) X.env :: (assignEach [Expr.Name u p4] X.env).map (·.2) := by rfl)
    (hs4 : (assignEach [Expr.Name u p4] X.env).map (·.2) = assign (.Name u p4) X.env :: (assignEach [] X.env).map (·.2) := by rfl) :
    PG X (.Tuple [.Name x p1, .Name y p2, .Name z p3, .Name u p4] kk pos) (gTup X.K 4 (gCons (gName i) (gCons (gName j) (gCons (gName l) (gCons (gName m) gNil))))) :=
  pg_tup hc (pgs_cons (pg_name hN hi hx hf) (pgs_cons (pg_name hN hj hy hf2) (pgs_cons (pg_name hN hl hz hf3) (pgs_cons (pg_name hN hm hw hf4) pgs_nil hs4) hs3) hs2) hs) hn hst
/-! ### a constructor that may raise, within a try -/
section
variable {X : Cx} {CX : CXT} {k : Nat} {f C : Addr} {fd : FuncData} {ps : List Str} {sp : Sp} {E : L2.St → XK} {x : Str} {p pos : Pos} {e : Expr} {es : List Expr} {t : TA}
def tMakeA (C : Addr) (sp : Sp) (E : L2.St → XK) (t : TA) : TE := fun σ H Q => t σ H fun vs H1 => ∀ x dx, H1 x = none → H1 dx = none → dx ≠ x →
  sp (.ref x :: vs) (upd (upd H1 dx (.own x)) x (.ins C dx [])) (fun v H2 => v = .non ∧ Q (.ref x) H2) (E σ)
theorem run_makeA {pins : List (Addr × Obj)} {σ : L2.St} {H : Hp} {s : Shared} {Q : VK} {us : List Value} {vs : List V} (M : Mk X.K C f) (F : FnOk X.prog X.w X.K X.mg X.base CX k f fd ps sp) (hr : Room (k + 1) X.A) (hb : Binds X.K fd ps [])
    (hx : PassesAt CX X σ (E σ)) (I : L2.Inv X pins σ H s) (r : Vals vs us)
    (h : ∀ x dx, H x = none → H dx = none → dx ≠ x → sp (.ref x :: vs) (upd (upd H dx (.own x)) x (.ins C dx [])) (fun v H2 => v = .non ∧ Q (.ref x) H2) (E σ)) :
    wpAny (model X.prog X.w) X.A (call (.ref C) us) (EP X pins σ Q) X.xe s := by
  have hq := h (s.heap.objs.size + 1) s.heap.objs.size (I.hok.fresh (Nat.le_succ _)) (I.hok.fresh (Nat.le_refl _)) (Nat.ne_of_lt (Nat.lt_succ_self _))
  have I2 := L2.Inv.made (C := C) I
  have r2 : Vals (V.ref (s.heap.objs.size + 1) :: vs) (Value.ref (s.heap.objs.size + 1) :: us) := .cons rfl r
  have hl : (Value.ref (s.heap.objs.size + 1) :: us ++ []).length = ps.length := by
    have e := r2.length
    rw [F.len _ _ _ _ hq] at e
    rw [List.append_nil]
    exact e.symm
  have hbb := hb _ (Value.ref (s.heap.objs.size + 1) :: us) I2.kIn hl
  rw [List.append_nil] at hbb
  refine wpAny_call (make_map (f := f) I.kIn M.makes M.init (beq_iff_eq.mp M.fn) (codeAny_mono (F.run _ X.stack _ _ ⟨Value.ref (s.heap.objs.size + 1) :: us, []⟩ (Value.ref (s.heap.objs.size + 1) :: us) _ _ (E σ) (hr.make C us [])
    (I2.env0.make C us []) hbb r2 hq) fun r s' hq' => ?_))
  cases r with
  | error e => exact hx pins _ _ e s' I2 hq'
  | ok fl =>
    cases fl with
    | ret u =>
      obtain ⟨v, H', I', rv, ev, q⟩ := I2.after hq'
      subst ev
      exact ⟨rv, ⟨V.ref (s.heap.objs.size + 1), H', I', rfl, q⟩⟩
    | next => exact False.elim hq'
    | brk => exact False.elim hq'
    | cont => exact False.elim hq'
theorem pe_makeA (M : Mk X.K C f) (F : FnOk X.prog X.w X.K X.mg X.base CX k f fd ps sp) (hr : Room (k + 1) X.A) (hg : Gl X x) (hm : X.mg x = some (.ref C)) (hb : Binds X.K fd ps []) (hx : ∀ σ, PassesAt CX X σ (E σ))
    (ha : PA X (e :: es) t) (hdb : (x == ("__debug__" : Str)) = false := by decide) (he : starEach (e :: es) X.env = (false, eval e X.env) :: starEach es X.env := by rfl) (hpl : (backTo pos (starEach es X.env)).any (·.1) = false := by rfl) :
    PE X (.Call (.Name x p) (e :: es) [] pos) (tMakeA C sp E t) := by
  refine ⟨fun pins s σ H Q I h => ?_⟩
  refine wpAny_Call_Name_kw (ld_glob I hg hm ?_ hdb)
  refine PySem.W.callWith_K (h₀ := X.base) I.ok.mod.kin M.kp (thn (ha.run pos pins s σ H _ I h) fun us s1 ⟨vs, H1, I1, r, q⟩ => ⟨I1.kIn, ?_⟩) he hpl
  exact run_makeA M F hr hb (hx σ) I1 r q
end
/-! ### the items of a table of the module -/
def tbRows (K : PySem.W.Frag) : List DictEntry → List (Str × PyData) → Bool
  | [], [] => true
  | e :: es, p :: ps => e.key.isStr p.1 && tbV K p.2 e.val && tbRows K es ps
  | _, _ => false
/-- a table whose rows are just these, in this sequence -/
structure KRows (K : PySem.W.Frag) (w : World) (D : Addr) (t : List (Str × PyData)) : Prop where
  ex : ∃ es n, KDict K w D es n ∧ tbRows K es.toList t = true
  nd : (t.map Prod.fst).Nodup
  sz : t.length ≤ 1000
theorem rows_lit {K : PySem.W.Frag} : ∀ {es : List DictEntry} {t : List (Str × PyData)}, tbRows K es t = true → tbLit es (t.map Prod.fst) = true
  | [], [], _ => rfl
  | e :: es, p :: ps, h => by
    have h : (e.key.isStr p.1 && tbV K p.2 e.val && tbRows K es ps) = true := h
    rw [Bool.and_eq_true, Bool.and_eq_true] at h
    show (e.key.isStr p.1 && tbLit es (ps.map Prod.fst)) = true
    rw [h.1.1, rows_lit h.2]
    rfl
  | [], _ :: _, h => nomatch h
  | _ :: _, [], h => nomatch h
theorem rows_len {K : PySem.W.Frag} : ∀ {es : List DictEntry} {t : List (Str × PyData)}, tbRows K es t = true → es.length = t.length
  | [], [], _ => rfl
  | e :: es, p :: ps, h => by
    have h : (e.key.isStr p.1 && tbV K p.2 e.val && tbRows K es ps) = true := h
    rw [Bool.and_eq_true] at h
    rw [List.length_cons, List.length_cons, rows_len h.2]
  | [], _ :: _, h => nomatch h
  | _ :: _, [], h => nomatch h
theorem rows_get {K : PySem.W.Frag} : ∀ {es : List DictEntry} {t : List (Str × PyData)} {i : Nat} {z : Str} {d : PyData}, tbRows K es t = true → t[i]? = some (z, d) → ∃ e, es[i]? = some e ∧ tbV K d e.val = true
  | [], [], i, z, d, _, h => by simp at h
  | e :: es, p :: ps, 0, z, d, h, hi => by
    have h : (e.key.isStr p.1 && tbV K p.2 e.val && tbRows K es ps) = true := h
    rw [Bool.and_eq_true, Bool.and_eq_true] at h
    simp at hi
    subst hi
    exact ⟨e, rfl, h.1.2⟩
  | e :: es, p :: ps, i + 1, z, d, h, hi => by
    have h : (e.key.isStr p.1 && tbV K p.2 e.val && tbRows K es ps) = true := h
    rw [Bool.and_eq_true] at h
    obtain ⟨e', h1, h2⟩ := rows_get (i := i) h.2 (by simpa using hi)
    exact ⟨e', by simpa using h1, h2⟩
  | [], _ :: _, _, _, _, h, _ => nomatch h
  | _ :: _, [], _, _, _, h, _ => nomatch h
/-- what the dict holds, as values -/
def rowVals (es : Array DictEntry) (t : List (Str × PyData)) : List (Str × Value) := (t.map Prod.fst).zip (es.toList.map fun e => e.val)
theorem KRows.at_ {K : PySem.W.Frag} {w : World} {P : Program} {D : Addr} {t : List (Str × PyData)} {es : Array DictEntry} {n : Nat} (kd : KDict K w D es n) (hl : tbRows K es.toList t = true) (nd : (t.map Prod.fst).Nodup) {h : Heap} (X : K.In h) : h.DictAt (strKind P w) D (rowVals es t) n := by
  obtain ⟨p, q⟩ := lit_pairs (P := P) (w := w) (rows_lit hl)
  refine ⟨_, es, X _ _ kd.at_, ⟨rfl, rfl, rfl⟩, rfl, fun e he => ?_, p, by unfold rowVals; rw [q]; exact nd⟩
  obtain ⟨x, t, e1, e2⟩ := kd.lit.all e (Array.mem_toList_iff.mpr he)
  exact ⟨x, by rw [e1]; exact strKind_is P w x t, e2⟩
theorem rowVals_len {K : PySem.W.Frag} {es : Array DictEntry} {t : List (Str × PyData)} (hl : tbRows K es.toList t = true) : (rowVals es t).length = t.length := by
  have := rows_len hl
  unfold rowVals
  rw [List.length_zip, List.length_map, List.length_map]
  omega
theorem rowVals_get {K : PySem.W.Frag} {es : Array DictEntry} {t : List (Str × PyData)} (hl : tbRows K es.toList t = true) {i : Nat} {z : Str} {d : PyData} (h : t[i]? = some (z, d)) : ∃ u v, (rowVals es t)[i]? = some (z, u) ∧ RelV v u ∧ ∀ M : Hp, Dp K M v d := by
  obtain ⟨e, h1, h2⟩ := rows_get hl h
  obtain ⟨v, r, k⟩ := tbV_ok h2
  refine ⟨e.val, v, ?_, r, k⟩
  unfold rowVals
  rw [List.getElem?_zip_eq_some]
  exact ⟨by rw [List.getElem?_map, h]; rfl, by rw [List.getElem?_map, h1]; rfl⟩
def Itit (K : PySem.W.Frag) (t : List (Str × PyData)) : It :=
  ⟨fun i _ => i < t.length, fun i H x H' => ∃ T z d v, t[i]? = some (z, d) ∧ (∀ M : Hp, Dp K M v d) ∧ x = .ref T ∧ H T = none ∧ H' = upd H T (.tup [.str z, v]), fun i _ => t.length ≤ i⟩
theorem walk_itemsT {K : PySem.W.Frag} {t : List (Str × PyData)} : Walk (Itit K t) t.length (fun _ => True) (fun i H x H' => ∃ T z d v, t[i]? = some (z, d) ∧ (∀ M : Hp, Dp K M v d) ∧ x = .ref T ∧ H T = none ∧ H' = upd H T (.tup [.str z, v])) :=
  ⟨fun _ _ hi _ => hi, fun _ _ => Nat.le_refl _, fun _ _ _ _ _ _ y => y⟩
theorem turn_itemsT {P : Program} {w : World} {K : PySem.W.Frag} {D : Addr} {t : List (Str × PyData)} {es : Array DictEntry} {n : Nat} {elts : List Expr} {kk : Nat} {tpos : Pos} (it : Addr) (kd : KDict K w D es n) (hl : tbRows K es.toList t = true) (nd : (t.map Prod.fst).Nodup) :
    Turn P w K (.Tuple elts kk tpos) (Itit K t) [it] it (fun i h => ∃ ok ov, IsItemIter h it D i (rowVals es t).length n ok ov) where
  mem := by simp
  obj := fun i h st b hb => by
    obtain rfl : b = it := by simpa using hb
    obtain ⟨ok, ov, e⟩ := st
    exact ⟨_, e, fun v z => nomatch z⟩
  keep := fun i h h' st k => let ⟨ok, ov, e⟩ := st; ⟨ok, ov, k it (by simp) _ e⟩
  item := by
    intro X hP hw hK hc i pins s σ H E I hf st hg
    subst hP hw hK
    have hg : i < t.length := hg
    obtain ⟨zd, hzd⟩ : ∃ zd, t[i]? = some zd := ⟨t[i], List.getElem?_eq_getElem hg⟩
    obtain ⟨z, d⟩ := zd
    obtain ⟨u, v, hu, ru, kv⟩ := rowVals_get hl hzd
    have hm := KRows.at_ (P := X.prog) kd hl nd I.kIn
    obtain ⟨ok, ov, he⟩ := st
    have hlt : it < s.heap.objs.size := Heap.lt_size he
    refine wpAny_pyNext_items_item he hm hu fun key h' hkey ho hT hz hk => ?_
    refine ⟨_, rfl, wpAny_letOwnedTupleGo_items (s := { s with heap := h' }) ho fun h'' he' sb => ?_⟩
    have hT2 : h''.get? s.heap.objs.size = some { cls := .type "tuple", data := .seq #[key, u] } := (sb.2 _ (Nat.ne_of_gt hlt)).trans hT
    obtain ⟨tk, ek⟩ := Value.isStrOf_shape (show Value.isStrOf z key = true from hkey)
    have rk : RelV (V.str z) key := ⟨tk, ek⟩
    have new : ObjOk X.prog X.w (upd H s.heap.objs.size (.tup [.str z, v])) h'' s.heap.objs.size (.tup [.str z, v]) :=
      ⟨by show 2 ≤ sizeLine; decide, [key, u], .cons rk (.cons ru .nil), ⟨_, hT2, rfl, _, rfl⟩⟩
    have I1 : L2.Inv X pins σ (upd H s.heap.objs.size (.tup [.str z, v])) { s with heap := h'' } :=
      I.turnedNew (t' := s.toks) (ch := [it]) (fun b ob hb e => (sb.2 b (by simpa using hb)).trans (hk b ob (by simpa using hb) e)) hf (Nat.le_refl _) new
    refine ⟨.ref s.heap.objs.size, _, I1, rfl, ⟨_, z, d, v, hzd, kv, rfl, I.hok.fresh (Nat.le_refl _), rfl⟩, ⟨key, u, he'⟩, fun b hb => ?_⟩
    obtain rfl : b = it := by simpa using hb
    rw [upd_ne (Nat.ne_of_lt hlt)]
    exact (hf _ (by simp)).1
  done := by
    intro X hP hw hK hc i pins s σ H E I hf st hg
    subst hP hw hK
    have hg : t.length ≤ i := hg
    obtain ⟨f0, f1, f2, f3, f4, f5⟩ := hf it (by simp)
    have hm := KRows.at_ (P := X.prog) kd hl nd I.kIn
    have hlen := rowVals_len hl
    obtain ⟨ok, ov, he⟩ := st
    exact wpAny_pyNext_items_end (I.ok.hd hc) he hm (List.getElem?_eq_none (by omega)) fun h' eb => ⟨rfl, I.turned (t' := s.toks) (fun b ob hb e => eb b ob hb e) f0 f1 f3 f4 f5⟩
  self := fun A i s Q E st h => let ⟨_, _, e⟩ := st; PySem.W.kcp_self e h
def iItemsT (K : PySem.W.Frag) (D : Addr) (t : List (Str × PyData)) (td : TE) : TI := fun σ H R => td σ H fun x H1 => x = .ref D ∧ R (Itit K t) H1
theorem pi_itemsT {X : Cx} {D : Addr} {t : List (Str × PyData)} {e : Expr} {td : TE} {apos cpos : Pos} {elts : List Expr} {kk : Nat} {tpos : Pos} (T : KRows X.K X.w D t) (he : PE X e td) (hbase : attributeBase e "items" X.env (eval e X.env) = eval e X.env := by rfl) (hline : (apos.endLine == cpos.line) = true := by rfl) :
    PI X (.Tuple elts kk tpos) (.Call (.Attribute e "items" apos) [] [] cpos) (iItemsT X.K D t td) := by
  obtain ⟨es, n, kd, hl⟩ := T.ex
  refine ⟨fun pins s σ H R I h => ?_⟩
  refine wpAny_Call_method (T := "dict") (id := "dict.items") hbase rfl hline F.plainAttrs_dict F.slot_dict_items F.type_dict_items (thn (he.run pins s σ H _ I h) fun u s1 ⟨x, H1, I1, rx, ex, q⟩ => ?_)
  subst ex
  obtain rfl : u = Value.ref D := rx
  have hm := KRows.at_ (P := X.prog) kd hl T.nd I1.kIn
  refine ⟨hm.dictOf.typeIs, hm.dictOf.mapOf.noDict, ?_⟩
  have I2 : L2.Inv X pins σ H1 { s1 with heap := s1.heap.push { cls := .type "dict_items", data := .fields #[.ref D] } } := I1.kept (t' := s1.toks) fun b ob q => Heap.get?_push_of_some _ q
  have fin : wpAny (model X.prog X.w) X.A (pyIter (.ref s1.heap.objs.size)) (PIE X pins σ (.Tuple elts kk tpos) R) X.xe { s1 with heap := s1.heap.push { cls := .type "dict_items", data := .fields #[.ref D] } } := by
    refine wpAny_pyIter_items (d := D) (knd := strKind X.prog X.w) ⟨_, Heap.get?_push_size _ rfl, rfl, rfl⟩ (hm.push _) (pi_one (tk := s1.toks) I2 _ (turn_itemsT _ kd hl T.nd) ⟨.none, .none, ?_⟩ q)
    exact Heap.get?_push_size _ rfl
  show wpAny _ _ (callWith cpos (.builtin "dict.items") [.ref D] [] []) _ X.xe s1
  exact method_meetsIn F.slot_dict_items F.entry_dict_items rfl (PySem.evalArgs_none ⟨rfl, hm.dictOf.typeIs, F.args_dict_items_1 _, _, meets_dict_items (strKind X.prog X.w) D kd.low, ⟨_, hm.dictOf⟩, fin⟩)
end Hx

set_option Elab.async false
set_option linter.all false
set_option maxRecDepth 100000
set_option maxHeartbeats 1000000
/-! == of two dicts of data, with any answer -/
namespace Hx
open PySem PySem.Spec PyProof.Rows L2
def hitD (lds : List (Key × PyData)) (p : Key × PyData) : Bool := match valD lds p.1 with
  | some d => PyData.eqv p.2 d
  | none => false
def eqvDD (kds lds : List (Key × PyData)) : Bool := kds.length == lds.length && kds.all (hitD lds)
section
variable {X : Cx} {pins : List (Addr × Obj)} {σ : L2.St} {H : Hp} {s : Shared}
theorem hitsDD (I : L2.Inv X pins σ H s) {A : Around} (hu : A.units + 64 < cLine) {ls : List (Key × V)} {vb : List (Key × Value)} (rb : KV ls vb) {lds : List (Key × PyData)} (hk : ls.map Prod.fst = lds.map Prod.fst)
    (hd : DpAll X.K H (ls.map Prod.snd) (lds.map Prod.snd)) (hs : ∀ p ∈ lds, SeqAt.shaped p.2 = true) : ∀ {kds : List (Key × PyData)} {ks : List (Key × V)} {va : List (Key × Value)}, KV ks va → ks.map Prod.fst = kds.map Prod.fst → DpAll X.K H (ks.map Prod.snd) (kds.map Prod.snd) → (∀ p ∈ kds, SeqAt.shaped p.2 = true) →
    PySem.W.KeqHitsP X.prog X.w A s vb va (kds.all (hitD lds)) := by
  intro kds
  induction kds with
  | nil =>
    intro ks va ra e _ _
    cases ks with
    | cons p r => simp at e
    | nil => cases ra; exact .nil
  | cons q kds ih =>
    intro ks va ra e hdp hsh
    cases ks with
    | nil => simp at e
    | cons p ks =>
      obtain ⟨e1, e2⟩ := keys_cons e
      cases hdp with
      | cons d1 d2 =>
        cases ra with
        | @cons _ q' _ qs h t =>
          obtain ⟨h1, h2⟩ := h
          obtain ⟨key, v⟩ := q'
          have h1' : p.1 = key := h1
          have ek : key = q.1 := h1' ▸ e1
          have r := ih t e2 d2 (fun p hp => hsh p (List.mem_cons_of_mem _ hp))
          rw [List.all_cons]
          have rr : RelO (valV ls q.1) (valueAt vb q.1) := rb.val q.1
          subst ek
          unfold hitD
          cases ev : valD lds q.1 with
          | none =>
            rw [valV_ofN hk ev] at rr
            rw [Bool.false_and]
            exact .miss (RelO.none_of rr)
          | some d' =>
            obtain ⟨v', ev'⟩ := valV_of hk ev
            rw [ev'] at rr
            obtain ⟨y, hy, ry⟩ := rr.some_of
            have dp' := valV_dp hk hd ev' ev
            obtain ⟨as, r1⟩ := Dp.reads I q.2 p.2 v d1 h2
            obtain ⟨bs, r2⟩ := Dp.reads I d' v' y dp' ry
            have s1 := hsh q List.mem_cons_self
            have s2 : SeqAt.shaped d' = true := by
              unfold valD at ev
              obtain ⟨z, hz, ez⟩ := Option.map_eq_some_iff.mp ev
              rw [← ez]
              exact hs z (List.mem_of_find?_eq_some hz)
            refine .hit hy (SeqAt.EqAt.eqP (SeqAt.eqAt_reads q.2 d' A s v y as bs r1 r2 (SeqAt.canLay_of_shaped s1) (SeqAt.canLay_of_shaped s2) ?_)) r
            have : q.2.depth ≤ 64 := by
              have := s1
              unfold SeqAt.shaped at this
              rw [Bool.and_eq_true] at this
              exact of_decide_eq_true this.2
            omega
def rDD (K : PySem.W.Frag) : R2 := fun x y H Q => ∃ (a b : Addr) (ks ls : List (Key × V)) (kds lds : List (Key × PyData)), x = .ref a ∧ y = .ref b ∧ H a = some (.dK ks) ∧ H b = some (.dK ls) ∧ ks.map Prod.fst = kds.map Prod.fst ∧ ls.map Prod.fst = lds.map Prod.fst ∧
  DpAll K H (ks.map Prod.snd) (kds.map Prod.snd) ∧ DpAll K H (ls.map Prod.snd) (lds.map Prod.snd) ∧ (∀ p ∈ kds, SeqAt.shaped p.2 = true) ∧ (∀ p ∈ lds, SeqAt.shaped p.2 = true) ∧ Q (.bl (eqvDD kds lds)) H
theorem op_eqDD (hu : X.A.units + 65 < cLine) : OpR X (compareOp .Eq) (rDD X.K) := by
  intro pins s σ H x y v u Q I rx ry h
  obtain ⟨a, b, ks, ls, kds, lds, rfl, rfl, ea, eb, hk, hl, dk, dl, sk, sl, q⟩ := h
  obtain rfl : v = Value.ref a := rx
  obtain rfl : u = Value.ref b := ry
  obtain ⟨_, ya, va, ra, da⟩ := (show ObjOk X.prog X.w H s.heap a (.dK ks) from I.hok a _ ea)
  obtain ⟨_, yb, vb, rb, db⟩ := (show ObjOk X.prog X.w H s.heap b (.dK ls) from I.hok b _ eb)
  refine PySem.W.rcP_dicts (knd := mixKind X.prog X.w) (r := kds.all (hitD lds)) ya yb da db (by omega) (fun _ => hitsDD I (A := X.A.in1) (by show X.A.units + 1 + 64 < cLine; omega) rb hl dl sl ra hk dk sk) _ _ ?_
  refine ⟨.bl _, H, I, rfl, ?_⟩
  have e1 : va.length = kds.length := by rw [← ra.length, ← List.length_map (f := Prod.fst), hk, List.length_map]
  have e2 : vb.length = lds.length := by rw [← rb.length, ← List.length_map (f := Prod.fst), hl, List.length_map]
  rw [e1, e2]
  exact q
end
end Hx

set_option Elab.async false
set_option linter.all false
set_option maxRecDepth 100000
set_option maxHeartbeats 4000000
/-! HsSI: rows (text, int) as data: sorted lists of them, sorted(d.items()), dict(rows) -/
namespace Hx
open PySem PySem.Spec PyProof.Rows L2 PySem.W
abbrev SI := Str × Int
def rowSI (r : SI) : PyData := .tuple [.str r.1, .int r.2]
def kvSI (r : SI) : Key × V := (Sum.inr r.1, V.int r.2)
def kdSI (r : SI) : Key × PyData := (Sum.inr r.1, .int r.2)
noncomputable def srtSI (rows : List SI) : List SI := rows.mergeSort (PySem.W.dataLe false rowSI)
theorem srtSI_perm (rows : List SI) : (srtSI rows).Perm rows := List.mergeSort_perm _ _
theorem alikeSI (rows : List SI) : PySem.W.AllAlike (rows.map rowSI) := PySem.W.AllAlike.of fun b b' => by
  simp [rowSI, PySem.W.alike, PySem.W.alikeAll]
theorem sortableSI (rows : List SI) : PySem.W.Sortable (rows.map rowSI) := PySem.W.Sortable.tuples fun b => ⟨_, _, rfl⟩
theorem depthSI (r : SI) : (rowSI r).depth ≤ 1 := by simp [rowSI, PyData.depth, PyData.depthAll]
theorem sh_rowSI {r : SI} (h : PyData.strOk r.1 = true) : SeqAt.shaped (rowSI r) = true := flat_sh (n := 1) ⟨by simp [rowSI, PyData.canLay0, PyData.canLayAll0, h], depthSI r⟩
theorem sh_rowsSI {rows : List SI} (h : ∀ r ∈ rows, PyData.strOk r.1 = true) : SeqAt.shaped (.list (rows.map rowSI)) = true := flat_sh (n := 2) (flat_list fun d hd => by
  obtain ⟨r, m, rfl⟩ := List.mem_map.mp hd
  exact ⟨by simp [rowSI, PyData.canLay0, PyData.canLayAll0, h r m], depthSI r⟩)
theorem eqv_rowSI (r q : SI) : PyData.eqv (rowSI r) (rowSI q) = decide (r = q) := by
  obtain ⟨x, i⟩ := r
  obtain ⟨y, j⟩ := q
  by_cases h1 : x = y <;> by_cases h2 : i = j <;> simp [rowSI, PyData.eqv, PyData.eqvAll, h1, h2]
theorem eqvA_rowsSI : ∀ rs qs : List SI, PyData.eqvAll (rs.map rowSI) (qs.map rowSI) = decide (rs = qs)
  | [], [] => by simp [PyData.eqvAll]
  | [], _ :: _ => by simp [PyData.eqvAll]
  | _ :: _, [] => by simp [PyData.eqvAll]
  | r :: rs, q :: qs => by
    rw [List.map_cons, List.map_cons, PyData.eqvAll, eqvA_rowsSI rs qs, eqv_rowSI]
    simp [Bool.decide_and]
theorem eqv_rowsSI (xs ys : List SI) : PyData.eqv (.list (xs.map rowSI)) (.list (ys.map rowSI)) = decide (xs = ys) := by
  rw [PyData.eqv, eqvA_rowsSI]
/-- by pairs of what stands and its data -/
noncomputable def srtZ {α : Type} (zs : List (α × SI)) : List (α × SI) := zs.mergeSort (PySem.W.dataLe false fun b => rowSI b.2)
theorem srtZ_snd {α : Type} (zs : List (α × SI)) : (srtZ zs).map Prod.snd = srtSI (zs.map Prod.snd) := by
  unfold srtZ srtSI
  rw [List.map_mergeSort]
  intro a _ b _
  rfl
theorem srtZ_perm {α : Type} (zs : List (α × SI)) : (srtZ zs).Perm zs := List.mergeSort_perm _ _
theorem snd_zip {α : Type} {xs : List α} {rows : List SI} (h : xs.length = rows.length) : (xs.zip rows).map Prod.snd = rows := List.map_snd_zip (by omega)
theorem fst_zip {α : Type} {xs : List α} {rows : List SI} (h : xs.length = rows.length) : (xs.zip rows).map Prod.fst = xs := List.map_fst_zip (by omega)
theorem dpZ {K : PySem.W.Frag} {M : Hp} : ∀ {zs : List (V × SI)}, (∀ z ∈ zs, Dp K M z.1 (rowSI z.2)) → DpAll K M (zs.map Prod.fst) ((zs.map Prod.snd).map rowSI)
  | [], _ => .nil
  | z :: zs, h => .cons (h z List.mem_cons_self) (dpZ fun y hy => h y (List.mem_cons_of_mem _ hy))
theorem zdp {K : PySem.W.Frag} {M : Hp} : ∀ {xs : List V} {rows : List SI}, DpAll K M xs (rows.map rowSI) → ∀ z ∈ xs.zip rows, Dp K M z.1 (rowSI z.2)
  | [], _, _, z, hz => by simp at hz
  | _ :: _, [], h, _, _ => nomatch h
  | x :: xs, r :: rows, h, z, hz => by
    cases h with
    | cons h1 h2 =>
      rw [List.zip_cons_cons] at hz
      rcases List.mem_cons.mp hz with rfl | hz
      · exact h1
      · exact zdp h2 z hz
theorem Dv.srt {K : PySem.W.Frag} {P : List Pf} {xs : List V} {rows : List SI} (h : Dv K P xs (rows.map rowSI)) : Dv K P ((srtZ (xs.zip rows)).map Prod.fst) ((srtSI rows).map rowSI) := fun M q => by
  have hl : xs.length = rows.length := by have := (h M q).len; simpa using this
  have e : srtSI rows = (srtZ (xs.zip rows)).map Prod.snd := by rw [srtZ_snd, snd_zip hl]
  rw [e]
  exact dpZ fun z hz => zdp (h M q) z ((srtZ_perm _).mem_iff.mp hz)
def rSortSI (K : PySem.W.Frag) : List V → Hp → VK → Prop := fun vs H Q => ∃ (a : Addr) (xs : List V) (rows : List SI), vs = [V.ref a] ∧ SqL K H a xs ∧ DpAll K H xs (rows.map rowSI) ∧
  ∀ p, H p = none → Q (.ref p) (upd H p (.lst ((srtZ (xs.zip rows)).map Prod.fst)))
section
variable {X : Cx}
theorem each_zip {s : Shared} {pins : List (Addr × Obj)} {σ : L2.St} {H : Hp} (I : L2.Inv X pins σ H s) : ∀ {xs : List V} {us : List Value} {rows : List SI}, Vals xs us → DpAll X.K H xs (rows.map rowSI) →
    EachIs (fun v (b : V × SI) => RelV b.1 v) us (xs.zip rows) ∧ EachIs (fun v (b : V × SI) => ∃ as, Reads s.heap v (rowSI b.2) as) us (xs.zip rows)
  | _, _, [], .nil, _ => ⟨.nil, .nil⟩
  | _, _, _ :: _, .nil, h => nomatch h
  | _, _, [], .cons _ _, h => nomatch h
  | _, _, r :: rows, .cons r1 rt, h => by
    cases h with
    | cons h1 h2 =>
      obtain ⟨a, b⟩ := each_zip I rt h2
      rw [List.zip_cons_cons]
      exact ⟨.cons r1 a, .cons (Dp.reads I _ _ _ h1 r1) b⟩
theorem vals_each : ∀ {us : List Value} {zs : List (V × SI)}, EachIs (fun v (b : V × SI) => RelV b.1 v) us zs → Vals (zs.map Prod.fst) us
  | _, _, .nil => .nil
  | _, _, .cons h t => .cons h (vals_each t)
theorem cr_sortSI (hu : X.A.units + 64 < cLine) : CallR X (.builtin "sorted") (rSortSI X.K) := by
  intro pins s σ H vs us Q I r h
  obtain ⟨a, xs, rows, rfl, hs, hx, q⟩ := h
  rw [Vals.ref1 r]
  obtain ⟨its, rv, pl, hz⟩ := I.list hs
  obtain ⟨e1, e2⟩ := each_zip I rv hx
  have hl : xs.length = rows.length := by have := hx.len; simpa using this
  have hm : (xs.zip rows).map (fun b => rowSI b.2) = rows.map rowSI := by
    rw [← snd_zip hl (rows := rows)]
    rw [List.map_map, snd_zip hl]
    rfl
  have hzl : (xs.zip rows).length = xs.length := by rw [List.length_zip]; omega
  refine PySem.W.sorted_data (R := fun v (b : V × SI) => RelV b.1 v) (enc := fun b : V × SI => rowSI b.2) pl.isList e1 e2 (by rw [hm]; exact alikeSI rows) (by rw [hm]; exact sortableSI rows) (by rw [hzl]; exact hz) (fun b _ => by have := depthSI b.2; omega) fun out hlen ho => ?_
  have hv := vals_each ho
  have ez : (xs.zip rows).mergeSort (PySem.W.dataLe false fun b => rowSI b.2) = srtZ (xs.zip rows) := rfl
  rw [ez] at hv
  obtain ⟨e, he⟩ := PyProof.Rows.sortedAll_at s.heap its (List.toArray out)
  have hf : H (s.heap.objs.size + 1) = none := I.hok.fresh (Nat.le_succ _)
  refine ⟨.ref (s.heap.objs.size + 1), upd H (s.heap.objs.size + 1) (.lst ((srtZ (xs.zip rows)).map Prod.fst)), I.laid (t' := s.toks) (fun b u e => PyProof.Rows.sortedAll_old e) (Nat.le_succ _) ⟨?_, out, e, hv, he⟩, rfl, q _ hf⟩
  rw [List.length_map, (srtZ_perm _).length_eq, hzl]
  exact hz
end
/-! ### dict(rows) -/
theorem callP_split {K : PySem.W.Frag} {H : Hp} : ∀ {xs : List V} {rows : List SI}, DpAll K H xs (rows.map rowSI) → ∃ ps : List Addr, xs = ps.map V.ref ∧ Paired (fun p kv => SqT K H p [kV kv.1, kv.2]) ps (rows.map kvSI)
  | [], [], _ => ⟨[], rfl, .nil⟩
  | [], _ :: _, h => nomatch h
  | _ :: _, [], h => nomatch h
  | x :: xs, r :: rows, h => by
    cases h with
    | cons h1 h2 =>
      obtain ⟨ps, rfl, hp⟩ := callP_split h2
      cases h1 with
      | tup hq ha =>
        cases ha with
        | cons a1 a2 =>
          cases a1
          cases a2 with
          | cons b1 b2 =>
            cases b1
            cases b2
            exact ⟨_ :: ps, rfl, .cons hq hp⟩
section
variable {X : Cx}
theorem call_dictSI (hc : X.calm = true) : CallR X (.type "dict") (fun vs H Q => ∃ (a : Addr) (xs : List V) (rows : List SI), vs = [.ref a] ∧ SqL X.K H a xs ∧ DpAll X.K H xs (rows.map rowSI) ∧ ∀ p, H p = none → Q (.ref p) (upd H p (.dK (mergeK [] (rows.map kvSI))))) := by
  intro pins s σ H vs us Q I r h
  obtain ⟨a, xs, rows, rfl, hs, hx, q⟩ := h
  obtain ⟨ps, rfl, hp⟩ := callP_split hx
  exact call_dictP hc pins s σ H _ us Q I r ⟨a, ps, _, rfl, hs, hp, q⟩
/-! ### sorted(d.items()) -/
def rItemsK : V → List V → Hp → VK → Prop := fun x xs H Q => ∃ (a : Addr) (kvs : List (Key × V)), x = .ref a ∧ xs = [] ∧ H a = some (.dK kvs) ∧ ∀ p, H p = none → Q (.ref p) (upd H p (DX.itemsO p a))
theorem mt_itemsK : MtR X "dict.items" rItemsK := by
  intro pins s σ H x xs v us Q I rx rxs h
  obtain ⟨a, kvs, rfl, rfl, ha, q⟩ := h
  cases rx
  cases rxs
  obtain ⟨z, hd, vs, rel, dd⟩ := dk_of I.hok ha
  obtain ⟨o, es, ep, ho, hx, hdat, _⟩ := id dd
  refine DT.callItems (es := es) (ep := ep) hd ⟨o, ho, hx, hdat⟩ ?_
  have hf : H s.heap.objs.size = none := I.hok.fresh (Nat.le_refl _)
  exact ⟨.ref s.heap.objs.size, upd H s.heap.objs.size (DX.itemsO s.heap.objs.size a), I.laid (t' := s.toks) (fun b u e => Heap.get?_push_of_some _ e) (Nat.le_refl _) (DX.itemsO_ok (Heap.get?_push_size _ rfl)), rfl, q _ hf⟩
/-- ts: where the pairs of rs stand -/
def PairsAt (H H' : Hp) : List Addr → List SI → Prop := Paired fun t r => H t = none ∧ H' t = some (.tup [.str r.1, .int r.2])
def rSortItSI : List V → Hp → VK → Prop := fun vs H Q => ∃ (p a : Addr) (rows : List SI), vs = [.ref p] ∧ H p = some (DX.itemsO p a) ∧ H a = some (.dK (rows.map kvSI)) ∧ rows.length ≤ 1000 ∧
  ∀ (H' : Hp) (l : Addr) (ts : List Addr), Same H H' → H l = none → H' l = some (.lst (ts.map V.ref)) → PairsAt H H' ts (srtSI rows) → Q (.ref l) H'
theorem paired_zip {H H' : Hp} : ∀ {zs : List (Addr × SI)}, (∀ z ∈ zs, H z.1 = none ∧ H' z.1 = some (.tup [.str z.2.1, .int z.2.2])) → PairsAt H H' (zs.map Prod.fst) (zs.map Prod.snd)
  | [], _ => .nil
  | z :: zs, h => .cons (h z List.mem_cons_self) (paired_zip fun y hy => h y (List.mem_cons_of_mem _ hy))
theorem each_of_zip {R : Value → Addr × SI → Prop} : ∀ {as : List Addr} {rows : List SI}, as.length = rows.length → (∀ (j : Nat) (a : Addr) (r : SI), as[j]? = some a → rows[j]? = some r → R (.ref a) (a, r)) → PySem.W.EachIs R (as.map Value.ref) (as.zip rows)
  | [], [], _, _ => .nil
  | [], _ :: _, h, _ => by simp at h
  | _ :: _, [], h, _ => by simp at h
  | a :: as, r :: rows, h, k => .cons (k 0 a r rfl rfl) (each_of_zip (by simpa using h) fun j a' r' h1 h2 => k (j + 1) a' r' (by simpa using h1) (by simpa using h2))
theorem each_refs : ∀ {us : List Value} {zs : List (Addr × SI)}, PySem.W.EachIs (fun v (b : Addr × SI) => v = Value.ref b.1) us zs → us = (zs.map Prod.fst).map Value.ref
  | _, _, .nil => rfl
  | _, _, .cons h t => by rw [each_refs t, h]; rfl
theorem vals_refs : ∀ (as : List Addr), Vals (as.map V.ref) (as.map Value.ref)
  | [] => .nil
  | a :: as => .cons rfl (vals_refs as)
theorem kvs_get {rows : List SI} {vs : List (Key × Value)} (rel : KV (rows.map kvSI) vs) {j : Nat} {r : SI} (h : rows[j]? = some r) : ∃ t, vs[j]? = some (Sum.inr r.1, Value.int r.2 t) := by
  obtain ⟨y, hy, e1, e2⟩ := paired_get rel (show (rows.map kvSI)[j]? = some (kvSI r) by rw [List.getElem?_map, h]; rfl)
  obtain ⟨k, v⟩ := y
  obtain ⟨t, rfl⟩ := (e2 : RelV (V.int r.2) v)
  have e1 : Sum.inr r.1 = k := e1
  subst e1
  exact ⟨t, hy⟩
theorem pairs_get {P : Program} {w : World} : ∀ {es : List DictEntry} {vs : List (Key × Value)} {j : Nat} {k : Key} {v : Value}, Pairs (mixKind P w) es vs → vs[j]? = some (k, v) → ∃ e, es[j]? = some e ∧ keyIs k e.key = true ∧ e.val = v
  | _, _, j, k, v, .nil, h => by simp at h
  | _, _, 0, k, v, .cons (e := e) h1 h2 _, h => by
    simp at h
    subst h
    exact ⟨e, rfl, h1, h2⟩
  | _, _, j + 1, k, v, .cons _ _ t, h => by
    obtain ⟨e, h1, h2⟩ := pairs_get (j := j) t (by simpa using h)
    exact ⟨e, by simpa using h1, h2⟩
theorem cr_sortedItSI (hc : X.calm = true) (hu : X.A.units + 64 < cLine) : CallR X (.builtin "sorted") rSortItSI := by
  intro pins s σ H xs us Q I r h
  obtain ⟨p, a, rows, rfl, hp, ha, hz, q⟩ := h
  obtain rfl := Vals.ref1 r
  have view : s.heap.IsItemsView p a := (show ObjOk X.prog X.w H s.heap p (DX.itemsO p a) from I.hok p _ hp).1
  obtain ⟨z, hd, vs, rel, dd⟩ := dk_of I.hok ha
  obtain ⟨o, es, ep, ho, hx, hdat, hk, hpr, hn⟩ := id dd
  have hesz : es.toList.length = vs.length := hpr.length
  have hvl : rows.length = vs.length := by have := Paired.length rel; simpa using this
  have hes : es.size = rows.length := by rw [← Array.length_toList]; omega
  have hh : X.A.handled = none := I.ok.hd hc
  refine DT.sortedI (es := es) (ep := ep) hh view ⟨o, ho, hx, hdat⟩ (by rw [sizeLine_eq]; omega) fun h' tk as hkp hlt hl hG => ?_
  have lak : as.length = rows.length := by omega
  have nd : as.Nodup := List.Pairwise.imp (fun h => Nat.ne_of_lt h) hG.rise
  have pr : ∀ (j : Nat) (b : Addr) (r : SI), as[j]? = some b → rows[j]? = some r → ∃ t1 t2, h'.get? b = some { cls := .type "tuple", data := .seq #[Value.str r.1 t1, Value.int r.2 t2] } := by
    intro j b r hj hr
    obtain ⟨en, he, hg⟩ := hG.pairs j b hj
    obtain ⟨t, hv⟩ := kvs_get rel hr
    obtain ⟨e', he', hk1, hk2⟩ := pairs_get hpr hv
    rw [Array.getElem?_toList] at he'
    rw [he] at he'
    cases he'
    obtain ⟨t1, ek⟩ := Value.isStrOf_shape (show Value.isStrOf r.1 en.key = true from hk1)
    have hk2 : en.val = Value.int r.2 t := hk2
    rw [ek, hk2] at hg
    exact ⟨t1, t, hg⟩
  have hob : (h'.push { cls := .type "list", data := .seq (as.map Value.ref).toArray }).get? h'.objs.size = some (seqObj "list" (as.map Value.ref).toArray 0) := Heap.get?_push_size _ rfl
  have kb : ∀ b o, s.heap.get? b = some o → (h'.push { cls := .type "list", data := .seq (as.map Value.ref).toArray }).get? b = some o := fun b o e => Heap.get?_push_of_some _ (hkp b o e)
  have ne0 : ∀ b o, h'.get? b = some o → b ≠ h'.objs.size := fun b o e => Nat.ne_of_lt (Heap.lt_size e)
  generalize hh2 : h'.push { cls := .type "list", data := .seq (as.map Value.ref).toArray } = h2 at hob kb ⊢
  have ka : ∀ b o, h'.get? b = some o → h2.get? b = some o := fun b o e => by rw [← hh2]; exact Heap.get?_push_of_some _ e
  have hm : (as.zip rows).map (fun b => rowSI b.2) = rows.map rowSI := by
    have e := congrArg (List.map rowSI) (snd_zip lak (xs := as))
    rw [List.map_map] at e
    exact e
  have hzl : (as.zip rows).length = rows.length := by rw [List.length_zip]; omega
  refine PySem.W.list_sort_data (s := { s with heap := h2, toks := tk }) (R := fun v (b : Addr × SI) => v = Value.ref b.1) (enc := fun b : Addr × SI => rowSI b.2) (bs := as.zip rows) hob (each_of_zip lak fun _ _ _ _ _ => rfl)
    (each_of_zip lak fun j b r hj hr => ?_) (by rw [hm]; exact alikeSI rows) (by rw [hm]; exact sortableSI rows) (by rw [hzl, sizeLine_eq]; omega) (fun b _ => by have := depthSI b.2; show X.A.units + 1 + 1 + (rowSI b.2).depth < cLine; omega) fun out hlen ho => ?_
  · obtain ⟨t1, t2, hg⟩ := pr j b r hj hr
    exact ⟨[], Reads.tuple (ka _ _ hg) rfl rfl (.cons (.str _ _) (.cons (.int _ _) .nil)), fun h => nomatch h⟩
  · have eo := each_refs ho
    have ez : (as.zip rows).mergeSort (PySem.W.dataLe false fun b => rowSI b.2) = srtZ (as.zip rows) := rfl
    rw [ez] at eo
    have kF : ∀ b o, b ≠ h'.objs.size → h2.get? b = some o → (sortedHeap h2 h'.objs.size (as.map Value.ref) (List.toArray out)).get? b = some o := fun b o hb e => (PyProof.Rows.sortedHeap_old hb (Heap.lt_size e)).trans e
    have kS : ∀ b o, s.heap.get? b = some o → (sortedHeap h2 h'.objs.size (as.map Value.ref) (List.toArray out)).get? b = some o := fun b o e => kF b o (ne0 _ _ (hkp b o e)) (kb b o e)
    obtain ⟨eF, heF⟩ := PyProof.Rows.sortedHeap_at (vs := as.map Value.ref) (out := List.toArray out) hob
    have I1 : L2.Inv X pins σ H { s with heap := sortedHeap h2 h'.objs.size (as.map Value.ref) (List.toArray out), toks := tk } := I.kept (t' := tk) kS
    have hn0 : H h'.objs.size = none := I.hok.fresh (Nat.le_of_lt hlt)
    have rv : Vals (((srtZ (as.zip rows)).map Prod.fst).map V.ref) out := by rw [eo]; exact vals_refs _
    have hlen2 : (((srtZ (as.zip rows)).map Prod.fst).map V.ref).length ≤ sizeLine := by
      rw [List.length_map, List.length_map, (srtZ_perm _).length_eq, hzl, sizeLine_eq]
      omega
    have I2 : L2.Inv X pins σ (upd H h'.objs.size (.lst (((srtZ (as.zip rows)).map Prod.fst).map V.ref))) { s with heap := sortedHeap h2 h'.objs.size (as.map Value.ref) (List.toArray out), toks := tk } :=
      I1.take (h' := sortedHeap h2 h'.objs.size (as.map Value.ref) (List.toArray out)) (t' := tk) (fun b ob _ e => e) (I.fpOk (Nat.le_of_lt hlt) hn0) ⟨hlen2, out, eF, rv, heF⟩
    obtain ⟨H2, I3, g, qt⟩ := DX.takeT (P := fun b vs => ∃ (j : Nat) (r : SI), as[j]? = some b ∧ rows[j]? = some r ∧ vs = [.str r.1, .int r.2]) I as _ I2 nd fun b hb => by
      obtain ⟨j, hj⟩ := List.mem_iff_getElem?.mp hb
      have hjl : j < rows.length := by have := (List.getElem?_eq_some_iff.mp hj).1; omega
      obtain ⟨t1, t2, hg⟩ := pr j b _ hj (List.getElem?_eq_getElem hjl)
      have hbl : s.heap.objs.size ≤ b := Nat.le_of_lt (hG.above b hb)
      refine ⟨hbl, ?_, _, ⟨j, rows[j], hj, List.getElem?_eq_getElem hjl, rfl⟩, fun H3 => ⟨(by rw [sizeLine_eq]; show 2 ≤ 16777216; omega), [Value.str rows[j].1 t1, Value.int rows[j].2 t2], .cons ⟨_, rfl⟩ (.cons ⟨_, rfl⟩ .nil), ⟨_, kF _ _ (ne0 _ _ hg) (ka _ _ hg), rfl, 0, rfl⟩⟩⟩
      rw [upd_ne (ne0 _ _ hg)]
      exact I.hok.fresh hbl
    have gr : Same H H2 := fun b o e => g b o (by rw [upd_ne (ne_of_none e hn0)]; exact e)
    have es2 : (srtZ (as.zip rows)).map Prod.snd = srtSI rows := by rw [srtZ_snd, snd_zip lak]
    refine ⟨.ref h'.objs.size, H2, I3, rfl, q H2 h'.objs.size ((srtZ (as.zip rows)).map Prod.fst) gr hn0 (g _ _ upd_same) ?_⟩
    rw [← es2]
    refine paired_zip fun z' hz' => ?_
    obtain ⟨i, hi⟩ := List.mem_iff_getElem?.mp ((srtZ_perm _).mem_iff.mp hz')
    obtain ⟨i1, i2⟩ := List.getElem?_zip_eq_some.mp hi
    have hbl : s.heap.objs.size ≤ z'.1 := Nat.le_of_lt (hG.above _ (List.mem_of_getElem? i1))
    obtain ⟨vs', ⟨j, r, j1, j2, ev⟩, hH⟩ := qt z'.1 (List.mem_of_getElem? i1)
    have eij : i = j := (List.getElem?_inj (List.getElem?_eq_some_iff.mp i1).1 nd).mp (i1.trans j1.symm)
    subst eij
    rw [i2] at j2
    cases j2
    rw [ev] at hH
    exact ⟨I.hok.fresh hbl, hH⟩
end
/-- what is owned, behind a sorted list of new pairs -/
theorem Own.pairs {K : PySem.W.Frag} {H H' : Hp} {L : List (Addr × Ob)} {P : List Pf} {l : Addr} {ts : List Addr} {rs : List SI} (h : Own K H L P) (sm : Same H H') (hl : H l = none) (e : H' l = some (.lst (ts.map V.ref))) (hp : PairsAt H H' ts rs) :
    Own K H' ((l, .raw (.lst (ts.map V.ref))) :: L) (.dp (ts.map V.ref) (rs.map rowSI) :: P) := by
  have np := h.none_of hl
  obtain ⟨M, nd, hL, hs, hq⟩ := h.ex
  have low : ∀ b u, M b = some u → H b ≠ none := fun b u hb z => by rw [hs b u hb] at z; cases z
  classical
  let M' : Hp := fun b => if H b = none ∧ b ≠ l then H' b else M b
  have mM : Same M M' := fun b u hb => by
    show (if H b = none ∧ b ≠ l then H' b else M b) = some u
    rw [if_neg fun z => low b u hb z.1]
    exact hb
  have Ml : M l = none := by
    cases z : M l with
    | none => rfl
    | some u => exact absurd hl (low _ _ z)
  have Mat : ∀ {ts : List Addr} {rs : List SI}, PairsAt H H' ts rs → DpAll K M' (ts.map V.ref) (rs.map rowSI) := by
    intro ts rs hp
    induction hp with
    | nil => exact .nil
    | @cons t r ts rs h1 _ ih =>
      refine .cons ?_ ih
      have ne : t ≠ l := fun z => by rw [z, e] at h1; cases h1.2
      have em : M' t = some (.tup [.str r.1, .int r.2]) := by
        show (if H t = none ∧ t ≠ l then H' t else M t) = _
        rw [if_pos ⟨h1.1, ne⟩]
        exact h1.2
      exact .tup (SqT.of em) (.cons (.str _) (.cons (.int _) .nil))
  refine ⟨M', ?_, fun q hq' => ?_, fun b u hb => ?_, fun q hq' => ?_⟩
  · rw [List.map_cons, List.nodup_cons]
    exact ⟨fun z => by obtain ⟨q, hq, e⟩ := List.mem_map.mp z; exact np q hq e, nd⟩
  · rcases List.mem_cons.mp hq' with rfl | hq'
    · refine ⟨e, ?_⟩
      show (if H l = none ∧ l ≠ l then H' l else M l) = none
      rw [if_neg fun z => z.2 rfl]
      exact Ml
    · obtain ⟨h1, h2⟩ := hL q hq'
      obtain ⟨u, hu⟩ := h1.some
      refine ⟨h1.same mM ((sm _ _ hu).trans hu.symm), ?_⟩
      show (if H q.1 = none ∧ q.1 ≠ l then H' q.1 else M q.1) = none
      rw [if_neg fun z => by rw [hu] at z; cases z.1]
      exact h2
  · have hb : (if H b = none ∧ b ≠ l then H' b else M b) = some u := hb
    split at hb
    · exact hb
    · exact sm _ _ (hs _ _ hb)
  · rcases List.mem_cons.mp hq' with rfl | hq'
    · exact Mat hp
    · exact q.same mM (hq q hq')
theorem Own.same {K : PySem.W.Frag} {H H' : Hp} {L : List (Addr × Ob)} {P : List Pf} (h : Own K H L P) (sm : Same H H') : Own K H' L P := by
  obtain ⟨M, nd, hL, hs, hq⟩ := h.ex
  refine ⟨M, nd, fun q hq' => ?_, fun b u hb => sm _ _ (hs _ _ hb), hq⟩
  obtain ⟨u, hu⟩ := (hL q hq').1.some
  exact ⟨(hL q hq').1.same (L2.Same.refl _) ((sm _ _ hu).trans hu.symm), (hL q hq').2⟩
theorem dp_rowSI {K : PySem.W.Frag} {H : Hp} {v : V} {r : SI} (h : Dp K H v (rowSI r)) : ∃ t, v = .ref t ∧ SqT K H t [.str r.1, .int r.2] := by
  cases h with
  | tup hq ha =>
    cases ha with
    | cons a1 a2 =>
      cases a1
      cases a2 with
      | cons b1 b2 =>
        cases b1
        cases b2
        exact ⟨_, rfl, hq⟩
theorem tyx_lst {K : PySem.W.Frag} {H : Hp} {a : Addr} {xs : List V} (h : H a = some (.lst xs)) : TyX K H (.ref a) (.type "list") := .base (.lst h)
end Hx

set_option Elab.async false
set_option linter.all false
set_option maxRecDepth 100000
set_option maxHeartbeats 4000000
/-! HsBo: the settings' names with their bounds, as data; what settings hold -/
namespace Hx
open PySem PySem.Spec PyProof.Rows L2
abbrev Bn := Str × Int × Int × Int
def tbl : List Bn := [("fetch", 1, 4, 2), ("issue", 1, 4, 2), ("retire", 1, 4, 2), ("reorder", 2, 32, 8), ("stations", 1, 16, 4), ("loads", 1, 8, 4), ("stores", 1, 8, 4), ("physical", 9, 48, 16), ("queue", 1, 8, 4), ("line", 1, 16, 4), ("sets1", 1, 8, 2), ("ways1", 1, 4, 1), ("sets2", 1, 16, 4), ("ways2", 1, 4, 2), ("wait2", 0, 9, 2), ("waitm", 0, 20, 6), ("times", 1, 8, 3), ("over", 1, 16, 6), ("buffer", 1, 16, 4), ("targets", 1, 16, 4), ("counters", 1, 32, 8), ("returns", 0, 8, 2), ("whim", 0, 4, 0), ("twist", 0, 1, 0)]
def boD (t : Bn) : PyData := .tuple [.int t.2.1, .int t.2.2.1, .int t.2.2.2]
def boT : List (Str × PyData) := tbl.map fun t => (t.1, boD t)
def tbD (t : Bn) : PyData := .tuple [.str t.1, .int t.2.1, .int t.2.2.1, .int t.2.2.2]
def liL : List V := [.int 1, .int 2, .int 4, .int 8, .int 16]
def nms : List Str := tbl.map fun t => t.1
theorem nms_nd : nms.Nodup := by decide +kernel
theorem bo_fst : boT.map Prod.fst = nms := by unfold boT nms; rw [List.map_map]; rfl
theorem nms_ok : ∀ n ∈ nms, PyData.strOk n = true := by decide +kernel
theorem tbl_ok : ∀ t ∈ tbl, 0 ≤ t.2.1 ∧ t.2.1 ≤ t.2.2.1 ∧ t.2.2.1 ≤ 48 ∧ t.2.1 ≤ t.2.2.2 ∧ t.2.2.2 ≤ t.2.2.1 := by decide +kernel
theorem tbl_uniq {t u : Bn} (ht : t ∈ tbl) (hu : u ∈ tbl) (e : t.1 = u.1) : t = u := by
  have nd : (tbl.map fun t => t.1).Nodup := nms_nd
  obtain ⟨i, hi, rfl⟩ := List.mem_iff_getElem.mp ht
  obtain ⟨j, hj, rfl⟩ := List.mem_iff_getElem.mp hu
  have : i = j := (List.getElem?_inj (l := tbl.map fun t => t.1) (by simpa using hi) nd).mp (by rw [List.getElem?_map, List.getElem?_map, List.getElem?_eq_getElem hi, List.getElem?_eq_getElem hj]; exact congrArg some e)
  subst this
  rfl
/-- what is let of a number for the name of t -/
def letB (t : Bn) (k : Int) : Bool := decide (t.2.1 ≤ k ∧ k ≤ t.2.2.1) && (decide (t.1 ≠ "line") || decide (k ∈ [1, 2, 4, 8, 16]))
theorem plain_let : ∀ t ∈ tbl, letB t t.2.2.2 = true := by decide +kernel
def okRow (r : SI) : Prop := ∃ t ∈ tbl, t.1 = r.1 ∧ letB t r.2 = true
def inRow (r : SI) : Prop := ∃ t ∈ tbl, t.1 = r.1
theorem okRow.inR {r : SI} (h : okRow r) : inRow r := let ⟨t, a, b, _⟩ := h; ⟨t, a, b⟩
theorem okRow_iff {t : Bn} {r : SI} (ht : t ∈ tbl) (e : t.1 = r.1) : okRow r ↔ letB t r.2 = true :=
  ⟨fun ⟨u, hu, e2, k⟩ => by rw [tbl_uniq ht hu (e.trans e2.symm)]; exact k, fun k => ⟨t, ht, e, k⟩⟩
def okB (r : SI) : Bool := tbl.any fun t => decide (t.1 = r.1) && letB t r.2
theorem okB_iff {r : SI} : okB r = true ↔ okRow r := by
  unfold okB okRow
  rw [List.any_eq_true]
  simp only [Bool.and_eq_true, decide_eq_true_eq]
theorem okB_at {t : Bn} {r : SI} (ht : t ∈ tbl) (e : t.1 = r.1) : okB r = letB t r.2 := by
  rw [Bool.eq_iff_iff, okB_iff, okRow_iff ht e]
theorem bo_mem {t : Bn} (ht : t ∈ tbl) : (t.1, boD t) ∈ boT := List.mem_map_of_mem (f := fun t : Bn => (t.1, boD t)) ht
def okR (rows : List SI) : Prop := (∀ r ∈ rows, okRow r) ∧ (rows.map Prod.fst).Nodup
/-- the last number of a name -/
def lst (vs : List SI) (n : Str) : Option Int := vs.foldl (fun o r => if r.1 = n then some r.2 else o) none
theorem lst_snoc (vs : List SI) (r : SI) (n : Str) : lst (vs ++ [r]) n = if r.1 = n then some r.2 else lst vs n := by
  unfold lst
  rw [List.foldl_append]
  rfl
def fillS (vs : List SI) : List SI := tbl.map fun t => (t.1, (lst vs t.1).getD t.2.2.2)
theorem fill_fst (vs : List SI) : (fillS vs).map Prod.fst = nms := by unfold fillS nms; rw [List.map_map]; rfl
theorem fill_len (vs : List SI) : (fillS vs).length = 24 := by unfold fillS; rw [List.length_map]; rfl
theorem fill_nd (vs : List SI) : ((fillS vs).map Prod.fst).Nodup := by rw [fill_fst]; exact nms_nd
theorem fill_ok (vs : List SI) : ∀ r ∈ fillS vs, PyData.strOk r.1 = true := fun r hr => nms_ok _ (by rw [← fill_fst vs]; exact List.mem_map_of_mem hr)
theorem fill_mem {vs : List SI} {t : Bn} (ht : t ∈ tbl) : (t.1, (lst vs t.1).getD t.2.2.2) ∈ fillS vs := List.mem_map.mpr ⟨t, ht, rfl⟩
theorem fill_snoc (vs : List SI) (r : SI) : fillS (vs ++ [r]) = (fillS vs).map fun q => if q.1 = r.1 then (q.1, r.2) else q := by
  unfold fillS
  rw [List.map_map]
  refine List.map_congr_left fun t _ => ?_
  show (t.1, (lst (vs ++ [r]) t.1).getD t.2.2.2) = if t.1 = r.1 then (t.1, r.2) else (t.1, (lst vs t.1).getD t.2.2.2)
  rw [lst_snoc]
  by_cases e : t.1 = r.1
  · rw [if_pos e, if_pos e.symm]; rfl
  · rw [if_neg e, if_neg fun z => e z.symm]
/-! ### dicts of rows -/
theorem any_kv (rows : List SI) (n : Str) : ((rows.map kvSI).any fun kv => decide (kv.1 = (Sum.inr n : Key))) = rows.any fun r => decide (r.1 = n) := by
  rw [List.any_map]
  congr 1
  funext r
  show decide ((Sum.inr r.1 : Key) = Sum.inr n) = decide (r.1 = n)
  rw [Bool.eq_iff_iff, decide_eq_true_iff, decide_eq_true_iff]
  exact ⟨fun h => Sum.inr.inj h, fun h => h ▸ rfl⟩
theorem putK_kv {rows : List SI} {n : Str} (c : Int) (h : n ∈ rows.map Prod.fst) : putK (rows.map kvSI) (Sum.inr n) (.int c) = (rows.map fun q => if q.1 = n then (q.1, c) else q).map kvSI := by
  unfold putK
  rw [any_kv, if_pos, List.map_map, List.map_map]
  · refine List.map_congr_left fun q _ => ?_
    show (if (Sum.inr q.1 : Key) = Sum.inr n then ((Sum.inr q.1 : Key), V.int c) else kvSI q) = kvSI (if q.1 = n then (q.1, c) else q)
    by_cases e : q.1 = n
    · rw [if_pos e, if_pos (by rw [e])]; rfl
    · rw [if_neg e, if_neg fun z => e (Sum.inr.inj z)]
  · obtain ⟨r, hr, e⟩ := List.mem_map.mp h
    exact List.any_eq_true.mpr ⟨r, hr, decide_eq_true e⟩
theorem fill_put {vs : List SI} {r : SI} (h : inRow r) : putK ((fillS vs).map kvSI) (Sum.inr r.1) (.int r.2) = (fillS (vs ++ [r])).map kvSI := by
  obtain ⟨t, ht, e⟩ := h
  rw [putK_kv r.2 (by rw [fill_fst, ← e]; exact List.mem_map_of_mem (f := fun t : Bn => t.1) ht), fill_snoc]
theorem merge_snoc (kvs : List (Key × V)) (p : Key × V) : mergeK [] (kvs ++ [p]) = putK (mergeK [] kvs) p.1 p.2 := by
  unfold mergeK
  rw [List.foldl_append]
  rfl
theorem val_merge (vs : List SI) (n : Str) : valV (mergeK [] (vs.map kvSI)) (Sum.inr n) = (lst vs n).map V.int := by
  rw [← List.reverse_reverse vs]
  induction vs.reverse with
  | nil => rfl
  | cons r us ih =>
    rw [List.reverse_cons, List.map_append, List.map_cons, List.map_nil, merge_snoc, valV_put, lst_snoc, ih]
    show (if (Sum.inr n : Key) = Sum.inr r.1 then some (V.int r.2) else _) = _
    by_cases e : r.1 = n
    · rw [if_pos e, if_pos (by rw [e])]; rfl
    · rw [if_neg e, if_neg fun z => e (Sum.inr.inj z).symm]
theorem val_rows {rows : List SI} {r : SI} (nd : (rows.map Prod.fst).Nodup) (h : r ∈ rows) : valV (rows.map kvSI) (Sum.inr r.1) = some (.int r.2) := by
  induction rows with
  | nil => exact nomatch h
  | cons q rows ih =>
    rw [List.map_cons, List.nodup_cons] at nd
    rw [List.map_cons]
    rcases List.mem_cons.mp h with rfl | h
    · exact valV_pos rfl
    · rw [valV_neg fun z => nd.1 (by rw [show q.1 = r.1 from Sum.inr.inj z]; exact List.mem_map_of_mem h)]
      exact ih nd.2 h
/-! ### the sequence of what was told -/
theorem lst_mem {vs : List SI} {n : Str} {c : Int} (nd : (vs.map Prod.fst).Nodup) : lst vs n = some c ↔ (n, c) ∈ vs := by
  have g : ∀ us : List SI, (us.reverse.map Prod.fst).Nodup → (lst us.reverse n = some c ↔ (n, c) ∈ us.reverse) := by
    intro us
    induction us with
    | nil => intro _; simp [lst]
    | cons r us ih =>
      intro nd
      rw [List.reverse_cons] at nd ⊢
      rw [List.map_append, List.nodup_append] at nd
      rw [lst_snoc, List.mem_append, List.mem_singleton]
      by_cases e : r.1 = n
      · rw [if_pos e]
        constructor
        · intro h; right; cases h; exact Prod.ext e.symm rfl
        · rintro (h | h)
          · exact absurd rfl (nd.2.2 n (List.mem_map.mpr ⟨_, h, rfl⟩) n (by simp [e]))
          · rw [← h]
      · rw [if_neg e, ih nd.1]
        exact ⟨.inl, fun h => h.elim id fun z => absurd (by rw [← z]) e⟩
  have := g vs.reverse (by rw [List.reverse_reverse]; exact nd)
  rwa [List.reverse_reverse] at this
theorem lst_perm {vs us : List SI} (p : vs.Perm us) (nd : (us.map Prod.fst).Nodup) (n : Str) : lst vs n = lst us n := by
  have nd2 : (vs.map Prod.fst).Nodup := (p.map _).nodup_iff.mpr nd
  cases e : lst us n with
  | some c => exact (lst_mem nd2).mpr (p.mem_iff.mpr ((lst_mem nd).mp e))
  | none =>
    cases e2 : lst vs n with
    | none => rfl
    | some c =>
      have := (lst_mem nd).mpr (p.mem_iff.mp ((lst_mem nd2).mp e2))
      rw [e] at this
      cases this
theorem fill_perm {vs us : List SI} (p : vs.Perm us) (nd : (us.map Prod.fst).Nodup) : fillS vs = fillS us := by
  unfold fillS
  refine List.map_congr_left fun t _ => ?_
  rw [lst_perm p nd]
theorem fill_again {vs us : List SI} (p : us.Perm (fillS vs)) : fillS us = fillS vs := by
  unfold fillS
  refine List.map_congr_left fun t ht => ?_
  have nd : (us.map Prod.fst).Nodup := (p.map _).nodup_iff.mpr (fill_nd vs)
  rw [(lst_mem nd).mpr (p.mem_iff.mpr (fill_mem ht))]
  rfl
/-- what is due to be told -/
noncomputable def due (vs : List SI) : List SI := srtSI (fillS vs)
theorem due_perm (vs : List SI) : (due vs).Perm (fillS vs) := srtSI_perm _
theorem due_mem {vs : List SI} {r : SI} (h : r ∈ due vs) : ∃ t ∈ tbl, r = (t.1, (lst vs t.1).getD t.2.2.2) := by
  obtain ⟨t, ht, e⟩ := List.mem_map.mp ((due_perm vs).mem_iff.mp h)
  exact ⟨t, ht, e.symm⟩
theorem due_len (vs : List SI) : (due vs).length = 24 := by rw [(due_perm vs).length_eq, fill_len]
theorem due_nd (vs : List SI) : ((due vs).map Prod.fst).Nodup := ((due_perm vs).map _).nodup_iff.mpr (fill_nd vs)
theorem due_ok (vs : List SI) : ∀ r ∈ due vs, PyData.strOk r.1 = true := fun r hr => fill_ok vs r ((due_perm vs).mem_iff.mp hr)
theorem due_inj {vs us : List SI} : due vs = due us ↔ fillS vs = fillS us := by
  constructor
  · intro e
    have p : (fillS vs).Perm (fillS us) := by
      refine (due_perm vs).symm.trans ?_
      rw [e]
      exact due_perm us
    rw [← fill_again (.refl (fillS vs)), fill_perm p (fill_nd us), fill_again (.refl _)]
  · intro e
    unfold due
    rw [e]
theorem due_okR {vs : List SI} (h : ∀ r ∈ vs, okRow r) : okR (due vs) := by
  refine ⟨fun r hr => ?_, due_nd vs⟩
  obtain ⟨t, ht, rfl⟩ := due_mem hr
  refine ⟨t, ht, rfl, ?_⟩
  have g : ∀ us : List SI, (∀ r ∈ us.reverse, okRow r) → letB t ((lst us.reverse t.1).getD t.2.2.2) = true := by
    intro us
    induction us with
    | nil => intro _; exact plain_let t ht
    | cons r us ih =>
      intro hk
      rw [List.reverse_cons] at hk ⊢
      rw [lst_snoc]
      by_cases e : r.1 = t.1
      · rw [if_pos e]
        exact (okRow_iff ht e.symm).mp (hk r (by simp))
      · rw [if_neg e]
        exact ih fun q hq => hk q (List.mem_append_left _ hq)
  have := g vs.reverse (by rw [List.reverse_reverse]; exact h)
  rwa [List.reverse_reverse] at this
theorem eqvDD_fill (vs us : List SI) : eqvDD ((fillS vs).map kdSI) ((fillS us).map kdSI) = decide (fillS vs = fillS us) := by
  have vD : ∀ {rows : List SI} {t : Bn} {c : Int}, (rows.map Prod.fst).Nodup → (t.1, c) ∈ rows → valD (rows.map kdSI) (Sum.inr t.1) = some (.int c) := by
    intro rows t c nd h
    induction rows with
    | nil => exact nomatch h
    | cons q rows ih =>
      rw [List.map_cons, List.nodup_cons] at nd
      rw [List.map_cons]
      rcases List.mem_cons.mp h with rfl | h
      · simp [valD, kdSI]
      · have ne : ¬ (Sum.inr q.1 : Key) = Sum.inr t.1 := fun z => nd.1 (by rw [show q.1 = t.1 from Sum.inr.inj z]; exact List.mem_map.mpr ⟨_, h, rfl⟩)
        have := ih nd.2 h
        unfold valD at this ⊢
        rw [List.find?_cons]
        rw [show decide ((kdSI q).1 = (Sum.inr t.1 : Key)) = false from decide_eq_false ne]
        exact this
  unfold eqvDD
  rw [List.length_map, List.length_map, fill_len, fill_len, beq_self_eq_true, Bool.true_and, Bool.eq_iff_iff, decide_eq_true_iff, List.all_eq_true]
  constructor
  · intro h
    unfold fillS
    refine List.map_congr_left fun t ht => ?_
    have h1 := h (kdSI (t.1, (lst vs t.1).getD t.2.2.2)) (List.mem_map_of_mem (fill_mem ht))
    have h2 := vD (fill_nd us) (fill_mem (vs := us) ht)
    unfold hitD at h1
    rw [show (kdSI (t.1, (lst vs t.1).getD t.2.2.2)).1 = Sum.inr t.1 from rfl, h2] at h1
    simp [kdSI, PyData.eqv] at h1
    rw [h1]
  · intro e p hp
    obtain ⟨r, hr, rfl⟩ := List.mem_map.mp hp
    obtain ⟨t, ht, rfl⟩ := List.mem_map.mp hr
    have h2 := vD (fill_nd us) (fill_mem (vs := us) ht)
    have h3 : (lst vs t.1).getD t.2.2.2 = (lst us t.1).getD t.2.2.2 := by
      have m := fill_mem (vs := vs) ht
      rw [e] at m
      have := vD (fill_nd us) m
      rw [h2] at this
      simpa using this.symm
    unfold hitD
    rw [show (kdSI (t.1, (lst vs t.1).getD t.2.2.2)).1 = Sum.inr t.1 from rfl, h2]
    simp [kdSI, PyData.eqv, h3]
end Hx

set_option Elab.async false
set_option linter.all false
/-! HsSet: sets and dicts; scopes of comprehensions within comprehensions -/
namespace Hx
open PySem PySem.Spec PyProof.Rows L2
def stVal : Stmt → Expr
  | .Assign _ v _ => v
  | _ => .Constant .none 0 ⟨0, 0, 0, 0⟩
def dcScope : Expr → Scope
  | .DictComp _ _ _ sc _ => sc
  | .ListComp _ _ sc _ => sc
  | _ => ⟨.function, [], false, false, []⟩
theorem walk_intsT {K : PySem.W.Frag} {a : Addr} {ns : List Int} : Walk (Itt K a) ns.length (fun H => SqT K H a (ns.map V.int)) (YAt (ns.map V.int)) := by
  have w := walk_tup (K := K) (a := a) (xs := ns.map V.int)
  rw [List.length_map] at w
  exact w
theorem inV_ints (z : Int) (ns : List Int) : inV (V.int z) (ns.map V.int) = decide (z ∈ ns) := by
  induction ns with
  | nil => rfl
  | cons n ns ih =>
    simp only [List.map_cons, inV, List.any_cons] at ih ⊢
    rw [ih]
    by_cases h : z = n
    · subst h; simp [eqV]
    · have h2 : ¬ n = z := fun e => h e.symm
      simp [eqV, h, h2]
theorem inV_non (ns : List Int) : inV V.non (ns.map V.int) = false := by
  induction ns with
  | nil => rfl
  | cons n ns ih =>
    simp only [List.map_cons, inV, List.any_cons] at ih ⊢
    rw [ih]
    rfl
theorem flat_ints (ns : List Int) : (ns.map V.int).all flatV = true := by
  rw [List.all_eq_true]
  intro x hx
  obtain ⟨z, _, rfl⟩ := List.mem_map.mp hx
  rfl
/-- what a block's scope is for the blocks within it: its free names are cells of the def -/
def reScope (s : Scope) : Scope := { s with names := s.names.map fun (n, k) => if k == .free then (n, .cell) else (n, k) }
end Hx

set_option Elab.async false
set_option linter.all false
set_option maxRecDepth 100000
set_option maxHeartbeats 4000000
/-! != by an own __eq__: object.__ne__ asks it and turns its answer -/
namespace Hx
open PySem PySem.Spec PyProof.Rows L2 PySem.W
section
variable {prog : Program} {w : World} {A : Around} {E : Value → Shared → Prop} {s : Shared} {K : Frag} {x C L f : Addr} {h₀ : Heap} {m : Str → Option Value} {ox : Obj} {od : Option Obj} {name : Str} {b tb : Value}
theorem one_bind (self : Value) : bindSpecial (.builtin "object.__ne__") self = pure (.builtin "object.__ne__", [self]) :=
  (Slot.of (T := "object") (name := "__ne__") (owner := "object") (n := "__ne__") (by rw [typeLookup_type, builtinLookup_eq_fast]; kernel_rfl) (by decide +kernel) (by decide +kernel) (by decide +kernel)
    (.inl (by decide +kernel)) (by rw [isSubtype_type]; kernel_rfl)).bind self
theorem ifBound_B {M : Model} {id : String} {args : List Value} {Q : Option Value → Shared → Prop} (X : K.In s.heap) (I : InstAt s.heap x ox C od) (hs : findIn K (.ref C) name = some (some (.builtin id))) (hb : ∀ self, bindSpecial (.builtin id) self = pure (.builtin id, [self]))
    (h : wpAny M A (call (.builtin id) (.ref x :: args)) (fun v => Q (some v)) E s) : wpAny M A (callSpecialIfBound? (.ref x) name args) Q E s := by
  simp only [callSpecialIfBound?, bindSpecialIfBound?]
  refine wpAny_holding (wpAny_bind (wpAny_bind (wpAny_bind (I.type.here ((looks_findIn X hs).here ?_)))))
  refine wpAny_bind (wpAny_askSetting (wpAny_ite ?_))
  have fin : wpAny M A (call (.builtin id) ([.ref x] ++ args) >>= fun v => pure (some v)) Q E s := wpAny_bind (wpAny_mono h (fun v s' h' => wpAny_pure h') fun _ _ h' => h')
  split
  · rw [hb]; exact wpAny_bind (wpAny_pure (wpAny_pure fin))
  · rw [hb]; exact wpAny_tryCatch (wpAny_bind (wpAny_pure (wpAny_pure fin)))
theorem check_ne (X : K.In s.heap) (I : InstAt s.heap x ox C od) (ho : subIn K (.ref C) (.type "object") = some true) {Q : Unit → Shared → Prop} (hq : Q () s) :
    wpAny (model prog w) A (checkBuiltinCall "object.__ne__" ⟨[.ref x, b], []⟩) Q E s := by
  have ha := PySem.F.cmpArgs_ne (.ref x) b
  simp only [checkBuiltinCall, PySem.F.cmpKind_ne, PySem.F.cmpSplit_ne]
  refine wpAny_bind ?_
  unfold isInstance
  refine wpAny_bind (I.type.here ((looks_subIn X ho).here ?_))
  simp only [Bool.not_true, Bool.false_eq_true, if_false]
  cases hsig : Manifest.signature? "object.__ne__" with
  | none => exact wpAny_pure hq
  | some sig =>
    simp only [argsOk, hsig] at ha
    have h2 : Bind.checkArgs "object.__ne__" sig ⟨[.ref x, b], []⟩ = pure () := ha
    show wpAny _ _ (Bind.checkArgs "object.__ne__" sig ⟨[.ref x, b], []⟩) Q E _
    rw [h2]; exact wpAny_pure hq
theorem ne_K {Q : Value → Shared → Prop} (hu : A.units + 1 < cLine) (F : Fr h₀ L s.heap m) (X₀ : K.In h₀) (I : InstAt s.heap x ox C od) (hb : Looks (model prog w) s.heap (typeOf b) tb) (hn : notFirst K C tb = true)
    (hs : findIn K (.ref C) "__eq__" = some (some (.ref f))) (hf : isFn K (.ref f) = true) (hne : findIn K (.ref C) "__ne__" = some (some (.builtin "object.__ne__"))) (ho : subIn K (.ref C) (.type "object") = some true)
    (h : wpAny (model prog w) A.in1 (call (.ref f) [.ref x, b]) (fun v s' => ∃ c : Bool, v = .bool c ∧ Q (.bool (!c)) s') E s) : wpAny (model prog w) A (richCompare .NotEq (.ref x) b) Q E s := by
  have X := X₀.keeps F.keep
  have one : wpAny (model prog w) A (tryCompare (.ref x) "__ne__" b) (fun r s' => ∃ v, r = some v ∧ Q v s') E s := by
    unfold tryCompare
    refine wpAny_bind (ifBound_B X I hne one_bind ?_)
    refine wpAny_call (codeAny_call_builtin (by decide +kernel) PySem.F.cmpEntry_ne (check_ne X I ho ?_))
    unfold Builtin.«object.__ne__»
    refine wpAny_bind (wpAny_of_eq (a := ((Value.ref x : Value), [b])) (by first | rfl | (simp only [slotArgs]; rfl)) ?_)
    refine wpAny_bind (wpAny_cRoomFor hu ?_)
    refine wpAny_bind (ifBound_K X I hs hf (wpAny_mono h (fun v s' hv => ?_) fun _ _ e => e))
    obtain ⟨c, rfl, hq⟩ := hv
    exact wpAny_bind (wpAny_pure (wpAny_pure (wpAny_pure ⟨_, rfl, hq⟩)))
  unfold richCompare
  simp only [oneThing_ref]
  refine wpAny_holding (wpAny_bind (wpAny_cRoomFor (by omega) ?_))
  refine wpAny_bind (I.type.here (wpAny_bind (hb.here ?_)))
  split
  · rename_i q
    have e : subIn K tb (.ref C) = some false := by
      rcases Bool.or_eq_true_iff.mp hn with e | e
      · rw [beq_iff_eq.mp e] at q; simp at q
      · exact beq_iff_eq.mp e
    refine wpAny_bind ((looks_subIn X e).here ?_)
    simp only [Bool.false_eq_true, if_false]
    refine wpAny_bind (wpAny_mono one (fun r s' z => ?_) fun _ _ e => e)
    obtain ⟨v, rfl, hq⟩ := z
    exact wpAny_pure hq
  · refine wpAny_bind (wpAny_pure ?_)
    simp only [Bool.false_eq_true, if_false]
    refine wpAny_bind (wpAny_mono one (fun r s' z => ?_) fun _ _ e => e)
    obtain ⟨v, rfl, hq⟩ := z
    exact wpAny_pure hq
end
/-- the walker stops at the operator -/
theorem op_stop {X : Cx} {f : Value → Value → Sem Value} {r : R2} (h : OpR X f r) : OpR X f (fun x y H Q => Stop (r x y H Q)) := fun pins s σ H x y v u Q I rx ry q => h pins s σ H x y v u Q I rx ry q.h
/-- what a look-up with something else hands back, by a fact of the context -/
structure EqV (a b : V) : Prop where
  h : a = b
def tDGet2E (td ty tx : TE) : TE := fun σ H Q => td σ H fun x H1 => ∃ a, x = .ref a ∧ IsD H1 a ∧ ty σ H1 fun y H2 => tx σ H2 fun z H3 => ∃ (o : Option V) (w : V), DGet H3 a y o ∧ EqV (o.getD z) w ∧ Q w H3
theorem pe_dget2E {X : Cx} {o e f : Expr} {td ty tx : TE} {apos cpos : Pos} (hu : X.A.units + 1 < cLine) (ho : PE X o td) (he : PE X e ty) (hf : PE X f tx) (m : M2 X o "get" apos e f cpos) : PE X (.Call (.Attribute o "get" apos) [e, f] [] cpos) (tDGet2E td ty tx) := by
  refine ⟨fun pins s σ H Q I h => ?_⟩
  refine wpAny_Call_method m.base m.few m.line PySem.F.plainAttrs_dict PySem.F.slot_dict_get PySem.F.type_dict_get (thn (ho.run pins s σ H _ I h) fun u s1 ⟨x, H1, I1, rx, a, ex, d, q1⟩ => ?_)
  subst ex
  obtain rfl : u = Value.ref a := rx
  obtain ⟨t1, t2, _⟩ := isD_at I1 d
  refine ⟨t1, t2, ?_⟩
  rw [m.trees]
  refine Calls.callWith_builtin rfl (Calls.evalArgs_plain (Calls.spliced_cons (thn (he.run pins s1 σ H1 _ I1 q1) fun iv s2 ⟨y, H2, I2, ry, q2⟩ =>
    Calls.spliced_cons (thn (hf.run pins s2 σ H2 _ I2 q2) fun fv s3 ⟨z, H3, I3, rz, ov, wv, g, ⟨e⟩, q3⟩ => Calls.spliced_nil ?_))))
  subst e
  exact d_get2 hu I3 g ry rz fun w' s4 I4 rw' => ⟨_, H3, I4, rw', q3⟩
section
variable {X : Cx} {n : Nat} {C f : Addr} {fd : FuncData} {ps : List Str} {sp : Sp}
/-- the call of __eq__ within object.__ne__ -/
theorem ne_call (F : FnOk X.prog X.w X.K X.mg X.base CX0 n f fd ps sp) (hr : Room (n + 1) X.A) (hb : Binds X.K fd ps []) {pins : List (Addr × Obj)} {s : Shared} {σ : L2.St} {H : Hp} (I : L2.Inv X pins σ H s) {a b : Addr} {Q : VK}
    (hsp : sp [.ref a, .ref b] H (fun v H' => ∃ c, v = .bl c ∧ Q (.bl (!c)) H') (fun _ _ _ => False)) :
    wpAny (model X.prog X.w) X.A.in1 (call (.ref f) [.ref a, .ref b]) (fun v s' => ∃ c : Bool, v = .bool c ∧ EP X pins σ Q (.bool (!c)) s') X.xe s := by
  have hl := F.len _ _ _ _ hsp
  have r2 : Vals [V.ref a, V.ref b] [Value.ref a, Value.ref b] := .cons rfl (.cons rfl .nil)
  have hB : BindsTo s fd ⟨[.ref a, .ref b], []⟩ (ps.zip [.ref a, .ref b]) := by
    have := hb s [.ref a, .ref b] I.kIn (by simpa using hl)
    simpa using this
  refine wpAny_call (codeAny_mono (F.run X.A.in1 X.stack s H ⟨[.ref a, .ref b], []⟩ [.ref a, .ref b] [.ref a, .ref b] _ _ hr.in1 I.env0.in1 hB r2 hsp) fun r s' hq => ?_)
  match r, hq with
  | .ok (.ret w), hq =>
    obtain ⟨z, H', I', rz, c, rfl, q⟩ := I.after hq
    cases rz
    exact ⟨c, rfl, .bl (!c), H', I', rfl, q⟩
  | .error e, hq => exact False.elim hq
  | .ok .next, hq => exact False.elim hq
  | .ok .brk, hq => exact False.elim hq
  | .ok .cont, hq => exact False.elim hq
/-- x != y by the class's own ==, whatever it answers -/
theorem op_neOwn (F : FnOk X.prog X.w X.K X.mg X.base CX0 n f fd ps sp) (hr : Room (n + 1) X.A)
    (hs : PySem.W.findIn X.K (.ref C) "__eq__" = some (some (.ref f))) (hf : PySem.W.isFn X.K (.ref f) = true) (hb : Binds X.K fd ps []) (hne : findIn X.K (.ref C) "__ne__" = some (some (.builtin "object.__ne__"))) (ho : subIn X.K (.ref C) (.type "object") = some true) :
    OpR X (compareOp .NotEq) (fun x y H Q => ∃ a b dx dy fs gs, x = .ref a ∧ y = .ref b ∧ H a = some (.ins C dx fs) ∧ H b = some (.ins C dy gs) ∧ sp [.ref a, .ref b] H (fun v H' => ∃ c, v = .bl c ∧ Q (.bl (!c)) H') (fun _ _ _ => False)) := by
  intro pins s σ H x y v u Q I rx ry h
  obtain ⟨a, b, dx, dy, fs, gs, rfl, rfl, ha, hb', hsp⟩ := h
  cases rx
  cases ry
  obtain ⟨mA, J, _⟩ := ins_get I.hok ha
  obtain ⟨mB, J', _⟩ := ins_get I.hok hb'
  obtain ⟨od, J, _⟩ := J.look
  obtain ⟨od', J', _⟩ := J'.look
  obtain ⟨m, hF⟩ := I.fr
  have hu := hr.un
  exact ne_K (tb := .ref C) (by omega) hF I.ok.mod.kin J J'.type (by simp [PySem.W.notFirst]) hs hf hne ho (ne_call F hr hb I hsp)
/-- the same beside a list -/
theorem op_neOwnL (F : FnOk X.prog X.w X.K X.mg X.base CX0 n f fd ps sp) (hr : Room (n + 1) X.A)
    (hs : PySem.W.findIn X.K (.ref C) "__eq__" = some (some (.ref f))) (hf : PySem.W.isFn X.K (.ref f) = true) (hb : Binds X.K fd ps []) (hsl : PySem.W.subIn X.K (.type "list") (.ref C) = some false) (hne : findIn X.K (.ref C) "__ne__" = some (some (.builtin "object.__ne__"))) (ho : subIn X.K (.ref C) (.type "object") = some true) :
    OpR X (compareOp .NotEq) (fun x y H Q => ∃ a b dx fs xs, x = .ref a ∧ y = .ref b ∧ H a = some (.ins C dx fs) ∧ H b = some (.lst xs) ∧ sp [.ref a, .ref b] H (fun v H' => ∃ c, v = .bl c ∧ Q (.bl (!c)) H') (fun _ _ _ => False)) := by
  intro pins s σ H x y v u Q I rx ry h
  obtain ⟨a, b, dx, fs, xs, rfl, rfl, ha, hb', hsp⟩ := h
  cases rx
  cases ry
  obtain ⟨mA, J, _⟩ := ins_get I.hok ha
  obtain ⟨od, J, _⟩ := J.look
  obtain ⟨_, _, nn, _, h1⟩ := (show ObjOk X.prog X.w H s.heap b (.lst xs) from I.hok b _ hb')
  obtain ⟨m, hF⟩ := I.fr
  have hu := hr.un
  exact ne_K (tb := .type "list") (by omega) hF I.ok.mod.kin J (fun A Q E s k q => wpAny_typeOf_ref (k _ _ h1) q) (by simp [PySem.W.notFirst, hsl]) hs hf hne ho (ne_call F hr hb I hsp)
end
end Hx

set_option Elab.async false
set_option linter.all false
set_option maxRecDepth 100000
set_option maxHeartbeats 8000000

namespace K91
open PySem PySem.Spec PyProof.Rows L2 Hx
def top (i : Nat) : Stmt := PySem.Challenge.pw_orderlycore_k91_any_value_as_point_or_ro.main.body.getD i (.Pass ⟨0, 0, 0, 0⟩)
abbrev s_is_integer : Stmt := top 7
theorem sc_is_integer : FnScope ["value"] ["value"] (defScope s_is_integer) := ⟨rfl, rfl, rfl, by decide +kernel, rfl, by decide +kernel, by decide +kernel⟩
abbrev s_is_between : Stmt := top 8
theorem sc_is_between : FnScope ["value", "least", "most"] ["value", "least", "most"] (defScope s_is_between) := ⟨rfl, rfl, rfl, by decide +kernel, rfl, by decide +kernel, by decide +kernel⟩
abbrev s_is_list : Stmt := top 9
theorem sc_is_list : FnScope ["value"] ["value"] (defScope s_is_list) := ⟨rfl, rfl, rfl, by decide +kernel, rfl, by decide +kernel, by decide +kernel⟩
abbrev s_is_word : Stmt := top 15
theorem sc_is_word : FnScope ["value"] ["value"] (defScope s_is_word) := ⟨rfl, rfl, rfl, by decide +kernel, rfl, by decide +kernel, by decide +kernel⟩
abbrev s_is_address : Stmt := top 16
theorem sc_is_address : FnScope ["value"] ["value"] (defScope s_is_address) := ⟨rfl, rfl, rfl, by decide +kernel, rfl, by decide +kernel, by decide +kernel⟩
abbrev s_is_place : Stmt := top 17
theorem sc_is_place : FnScope ["value"] ["value"] (defScope s_is_place) := ⟨rfl, rfl, rfl, by decide +kernel, rfl, by decide +kernel, by decide +kernel⟩
abbrev s_is_register : Stmt := top 18
theorem sc_is_register : FnScope ["value"] ["value"] (defScope s_is_register) := ⟨rfl, rfl, rfl, by decide +kernel, rfl, by decide +kernel, by decide +kernel⟩
abbrev s_is_row : Stmt := top 22
theorem sc_is_row : FnScope ["value", "address", "word", "cause", "which", "written", "place", "stored"] ["value"] (defScope s_is_row) := ⟨rfl, rfl, rfl, by decide +kernel, rfl, by decide +kernel, by decide +kernel⟩
abbrev s_are_rows : Stmt := top 23
theorem sc_are_rows : FnScope ["value", "one"] ["value"] (defScope s_are_rows) := ⟨rfl, rfl, rfl, by decide +kernel, rfl, by decide +kernel, by decide +kernel⟩
abbrev s_need_row : Stmt := top 24
theorem sc_need_row : FnScope ["value"] ["value"] (defScope s_need_row) := ⟨rfl, rfl, rfl, by decide +kernel, rfl, by decide +kernel, by decide +kernel⟩
abbrev s_need_row_list : Stmt := top 25
theorem sc_need_row_list : FnScope ["value"] ["value"] (defScope s_need_row_list) := ⟨rfl, rfl, rfl, by decide +kernel, rfl, by decide +kernel, by decide +kernel⟩
abbrev s_is_point : Stmt := top 28
theorem sc_is_point : FnScope ["value", "least", "greatest", "_"] ["value"] (defScope s_is_point) := ⟨rfl, rfl, rfl, by decide +kernel, rfl, by decide +kernel, by decide +kernel⟩
abbrev s_need_point : Stmt := top 29
theorem sc_need_point : FnScope ["value"] ["value"] (defScope s_need_point) := ⟨rfl, rfl, rfl, by decide +kernel, rfl, by decide +kernel, by decide +kernel⟩
abbrev s_meets : Stmt := top 30
theorem sc_meets : FnScope ["point", "row"] ["point", "row"] (defScope s_meets) := ⟨rfl, rfl, rfl, by decide +kernel, rfl, by decide +kernel, by decide +kernel⟩
abbrev s_first_met : Stmt := top 31
theorem sc_first_met : FnScope ["points", "rows", "point", "at", "row", "position"] ["points", "rows"] (defScope s_first_met) := ⟨rfl, rfl, rfl, by decide +kernel, rfl, by decide +kernel, by decide +kernel⟩
abbrev s__meets : Stmt := top 32
theorem sc__meets : FnScope ["point", "row", "word", "number"] ["point", "row"] (defScope s__meets) := ⟨rfl, rfl, rfl, by decide +kernel, rfl, by decide +kernel, by decide +kernel⟩
abbrev s_Lpot : Stmt := top 34
theorem sc_Lpot : FnScope ["_law_script", "_law_k", "_law_cell"] ["_law_script", "_law_k"] (defScope s_Lpot) := ⟨rfl, rfl, rfl, by decide +kernel, rfl, by decide +kernel, by decide +kernel⟩
abbrev s_Ldraw : Stmt := top 35
theorem sc_Ldraw : FnScope ["_law_pot_here", "_law_many", "_law_digit"] ["_law_pot_here", "_law_many"] (defScope s_Ldraw) := ⟨rfl, rfl, rfl, by decide +kernel, rfl, by decide +kernel, by decide +kernel⟩
abbrev s_Lpick : Stmt := top 36
theorem sc_Lpick : FnScope ["_law_pot_here", "_law_some"] ["_law_pot_here", "_law_some"] (defScope s_Lpick) := ⟨rfl, rfl, rfl, by decide +kernel, rfl, by decide +kernel, by decide +kernel⟩
abbrev s_Lmeets : Stmt := top 37
theorem sc_Lmeets : FnScope ["_law_point_here", "_law_row_here", "_law_at"] ["_law_point_here", "_law_row_here"] (defScope s_Lmeets) := ⟨rfl, rfl, rfl, by decide +kernel, rfl, by decide +kernel, by decide +kernel⟩
abbrev s_Lfirst : Stmt := top 38
theorem sc_Lfirst : FnScope ["_law_points", "_law_rows", "_law_at", "_law_row_here", "_law_spot", "_law_point_here"] ["_law_points", "_law_rows"] (defScope s_Lfirst) := ⟨rfl, rfl, rfl, by decide +kernel, rfl, by decide +kernel, by decide +kernel⟩
abbrev s_Lis_count : Stmt := top 39
theorem sc_Lis_count : FnScope ["_law_value", "_law_most"] ["_law_value", "_law_most"] (defScope s_Lis_count) := ⟨rfl, rfl, rfl, by decide +kernel, rfl, by decide +kernel, by decide +kernel⟩
abbrev s_Lis_point : Stmt := top 40
theorem sc_Lis_point : FnScope ["_law_value", "_law_most"] ["_law_value"] (defScope s_Lis_point) := ⟨rfl, rfl, rfl, by decide +kernel, rfl, by decide +kernel, by decide +kernel⟩
abbrev s_Lare_two : Stmt := top 41
theorem sc_Lare_two : FnScope ["_law_one", "_law_other", "_law_most"] ["_law_one", "_law_other", "_law_most"] (defScope s_Lare_two) := ⟨rfl, rfl, rfl, by decide +kernel, rfl, by decide +kernel, by decide +kernel⟩
abbrev s_Lis_row : Stmt := top 42
theorem sc_Lis_row : FnScope ["_law_value"] ["_law_value"] (defScope s_Lis_row) := ⟨rfl, rfl, rfl, by decide +kernel, rfl, by decide +kernel, by decide +kernel⟩
abbrev s_Lpoint : Stmt := top 43
theorem sc_Lpoint : FnScope ["_law_pot_here", "_law_word"] ["_law_pot_here"] (defScope s_Lpoint) := ⟨rfl, rfl, rfl, by decide +kernel, rfl, by decide +kernel, by decide +kernel⟩
abbrev s_Lrow : Stmt := top 44
theorem sc_Lrow : FnScope ["_law_pot_here", "_law_written", "_law_stored"] ["_law_pot_here"] (defScope s_Lrow) := ⟨rfl, rfl, rfl, by decide +kernel, rfl, by decide +kernel, by decide +kernel⟩
abbrev s_Lbent : Stmt := top 45
theorem sc_Lbent : FnScope ["_law_pot_here", "_law_value", "_law_at", "_law_way", "_law_odd"] ["_law_pot_here", "_law_value"] (defScope s_Lbent) := ⟨rfl, rfl, rfl, by decide +kernel, rfl, by decide +kernel, by decide +kernel⟩
abbrev s_Lright : Stmt := top 46
theorem sc_Lright : FnScope ["_law_pot_here", "_law_point_here", "_law_row_here", "_law_turn", "_law_told", "_law_own", "_law_value", "_law_shown", "_law_points", "_law_rows", "_law_due"] ["_law_pot_here"] (defScope s_Lright) := ⟨rfl, rfl, rfl, by decide +kernel, rfl, by decide +kernel, by decide +kernel⟩
abbrev s_law : Stmt := top 47
theorem sc_law : FnScope ["_law_script"] ["_law_script"] (defScope s_law) := ⟨rfl, rfl, rfl, by decide +kernel, rfl, by decide +kernel, by decide +kernel⟩
structure Txt (w : World) (K : PySem.W.Frag) (mg : Str → Option Value) where
  f_is_integer : Addr
  fd_is_integer : FuncData
  F_is_integer : Fun K "is_integer" "is_integer" s_is_integer f_is_integer fd_is_integer
  g_is_integer : mg "is_integer" = some (.ref f_is_integer)
  b_is_integer : Binds K fd_is_integer ["value"] []
  f_is_between : Addr
  fd_is_between : FuncData
  F_is_between : Fun K "is_between" "is_between" s_is_between f_is_between fd_is_between
  g_is_between : mg "is_between" = some (.ref f_is_between)
  b_is_between : Binds K fd_is_between ["value", "least", "most"] []
  f_is_list : Addr
  fd_is_list : FuncData
  F_is_list : Fun K "is_list" "is_list" s_is_list f_is_list fd_is_list
  g_is_list : mg "is_list" = some (.ref f_is_list)
  b_is_list : Binds K fd_is_list ["value"] []
  f_is_word : Addr
  fd_is_word : FuncData
  F_is_word : Fun K "is_word" "is_word" s_is_word f_is_word fd_is_word
  g_is_word : mg "is_word" = some (.ref f_is_word)
  b_is_word : Binds K fd_is_word ["value"] []
  f_is_address : Addr
  fd_is_address : FuncData
  F_is_address : Fun K "is_address" "is_address" s_is_address f_is_address fd_is_address
  g_is_address : mg "is_address" = some (.ref f_is_address)
  b_is_address : Binds K fd_is_address ["value"] []
  f_is_place : Addr
  fd_is_place : FuncData
  F_is_place : Fun K "is_place" "is_place" s_is_place f_is_place fd_is_place
  g_is_place : mg "is_place" = some (.ref f_is_place)
  b_is_place : Binds K fd_is_place ["value"] []
  f_is_register : Addr
  fd_is_register : FuncData
  F_is_register : Fun K "is_register" "is_register" s_is_register f_is_register fd_is_register
  g_is_register : mg "is_register" = some (.ref f_is_register)
  b_is_register : Binds K fd_is_register ["value"] []
  f_is_row : Addr
  fd_is_row : FuncData
  F_is_row : Fun K "is_row" "is_row" s_is_row f_is_row fd_is_row
  g_is_row : mg "is_row" = some (.ref f_is_row)
  b_is_row : Binds K fd_is_row ["value"] []
  kb_is_row : KBinds K fd_is_row ["value"] ["value"] kwG kwG
  f_are_rows : Addr
  fd_are_rows : FuncData
  F_are_rows : Fun K "are_rows" "are_rows" s_are_rows f_are_rows fd_are_rows
  g_are_rows : mg "are_rows" = some (.ref f_are_rows)
  b_are_rows : Binds K fd_are_rows ["value"] []
  f_need_row : Addr
  fd_need_row : FuncData
  F_need_row : Fun K "need_row" "need_row" s_need_row f_need_row fd_need_row
  g_need_row : mg "need_row" = some (.ref f_need_row)
  b_need_row : Binds K fd_need_row ["value"] []
  f_need_row_list : Addr
  fd_need_row_list : FuncData
  F_need_row_list : Fun K "need_row_list" "need_row_list" s_need_row_list f_need_row_list fd_need_row_list
  g_need_row_list : mg "need_row_list" = some (.ref f_need_row_list)
  b_need_row_list : Binds K fd_need_row_list ["value"] []
  f_is_point : Addr
  fd_is_point : FuncData
  F_is_point : Fun K "is_point" "is_point" s_is_point f_is_point fd_is_point
  g_is_point : mg "is_point" = some (.ref f_is_point)
  b_is_point : Binds K fd_is_point ["value"] []
  kb_is_point : KBinds K fd_is_point ["value"] ["value"] kwG kwG
  f_need_point : Addr
  fd_need_point : FuncData
  F_need_point : Fun K "need_point" "need_point" s_need_point f_need_point fd_need_point
  g_need_point : mg "need_point" = some (.ref f_need_point)
  b_need_point : Binds K fd_need_point ["value"] []
  f_meets : Addr
  fd_meets : FuncData
  F_meets : Fun K "meets" "meets" s_meets f_meets fd_meets
  g_meets : mg "meets" = some (.ref f_meets)
  b_meets : Binds K fd_meets ["point", "row"] []
  kp_meets_0_10 : KBinds K fd_meets ["point", "row"] ["row", "point"] (kwP 0 [1, 0]) (kwP 0 [1, 0])
  f_first_met : Addr
  fd_first_met : FuncData
  F_first_met : Fun K "first_met" "first_met" s_first_met f_first_met fd_first_met
  g_first_met : mg "first_met" = some (.ref f_first_met)
  b_first_met : Binds K fd_first_met ["points", "rows"] []
  kp_first_met_0_10 : KBinds K fd_first_met ["points", "rows"] ["rows", "points"] (kwP 0 [1, 0]) (kwP 0 [1, 0])
  f__meets : Addr
  fd__meets : FuncData
  F__meets : Fun K "_meets" "_meets" s__meets f__meets fd__meets
  g__meets : mg "_meets" = some (.ref f__meets)
  b__meets : Binds K fd__meets ["point", "row"] []
  f_Lpot : Addr
  fd_Lpot : FuncData
  F_Lpot : Fun K "_law_pot" "_law_pot" s_Lpot f_Lpot fd_Lpot
  g_Lpot : mg "_law_pot" = some (.ref f_Lpot)
  b_Lpot : Binds K fd_Lpot ["_law_script", "_law_k"] []
  f_Ldraw : Addr
  fd_Ldraw : FuncData
  F_Ldraw : Fun K "_law_draw" "_law_draw" s_Ldraw f_Ldraw fd_Ldraw
  g_Ldraw : mg "_law_draw" = some (.ref f_Ldraw)
  b_Ldraw : Binds K fd_Ldraw ["_law_pot_here", "_law_many"] []
  f_Lpick : Addr
  fd_Lpick : FuncData
  F_Lpick : Fun K "_law_pick" "_law_pick" s_Lpick f_Lpick fd_Lpick
  g_Lpick : mg "_law_pick" = some (.ref f_Lpick)
  b_Lpick : Binds K fd_Lpick ["_law_pot_here", "_law_some"] []
  f_Lmeets : Addr
  fd_Lmeets : FuncData
  F_Lmeets : Fun K "_law_meets" "_law_meets" s_Lmeets f_Lmeets fd_Lmeets
  g_Lmeets : mg "_law_meets" = some (.ref f_Lmeets)
  b_Lmeets : Binds K fd_Lmeets ["_law_point_here", "_law_row_here"] []
  f_Lfirst : Addr
  fd_Lfirst : FuncData
  F_Lfirst : Fun K "_law_first" "_law_first" s_Lfirst f_Lfirst fd_Lfirst
  g_Lfirst : mg "_law_first" = some (.ref f_Lfirst)
  b_Lfirst : Binds K fd_Lfirst ["_law_points", "_law_rows"] []
  f_Lis_count : Addr
  fd_Lis_count : FuncData
  F_Lis_count : Fun K "_law_is_count" "_law_is_count" s_Lis_count f_Lis_count fd_Lis_count
  g_Lis_count : mg "_law_is_count" = some (.ref f_Lis_count)
  b_Lis_count : Binds K fd_Lis_count ["_law_value", "_law_most"] []
  f_Lis_point : Addr
  fd_Lis_point : FuncData
  F_Lis_point : Fun K "_law_is_point" "_law_is_point" s_Lis_point f_Lis_point fd_Lis_point
  g_Lis_point : mg "_law_is_point" = some (.ref f_Lis_point)
  b_Lis_point : Binds K fd_Lis_point ["_law_value"] []
  f_Lare_two : Addr
  fd_Lare_two : FuncData
  F_Lare_two : Fun K "_law_are_two" "_law_are_two" s_Lare_two f_Lare_two fd_Lare_two
  g_Lare_two : mg "_law_are_two" = some (.ref f_Lare_two)
  b_Lare_two : Binds K fd_Lare_two ["_law_one", "_law_other", "_law_most"] []
  f_Lis_row : Addr
  fd_Lis_row : FuncData
  F_Lis_row : Fun K "_law_is_row" "_law_is_row" s_Lis_row f_Lis_row fd_Lis_row
  g_Lis_row : mg "_law_is_row" = some (.ref f_Lis_row)
  b_Lis_row : Binds K fd_Lis_row ["_law_value"] []
  f_Lpoint : Addr
  fd_Lpoint : FuncData
  F_Lpoint : Fun K "_law_point" "_law_point" s_Lpoint f_Lpoint fd_Lpoint
  g_Lpoint : mg "_law_point" = some (.ref f_Lpoint)
  b_Lpoint : Binds K fd_Lpoint ["_law_pot_here"] []
  f_Lrow : Addr
  fd_Lrow : FuncData
  F_Lrow : Fun K "_law_row" "_law_row" s_Lrow f_Lrow fd_Lrow
  g_Lrow : mg "_law_row" = some (.ref f_Lrow)
  b_Lrow : Binds K fd_Lrow ["_law_pot_here"] []
  f_Lbent : Addr
  fd_Lbent : FuncData
  F_Lbent : Fun K "_law_bent" "_law_bent" s_Lbent f_Lbent fd_Lbent
  g_Lbent : mg "_law_bent" = some (.ref f_Lbent)
  b_Lbent : Binds K fd_Lbent ["_law_pot_here", "_law_value"] []
  f_Lright : Addr
  fd_Lright : FuncData
  F_Lright : Fun K "_law_right" "_law_right" s_Lright f_Lright fd_Lright
  g_Lright : mg "_law_right" = some (.ref f_Lright)
  b_Lright : Binds K fd_Lright ["_law_pot_here"] []
  f_law : Addr
  fd_law : FuncData
  F_law : Fun K "law" "law" s_law f_law fd_law
  g_law : mg "law" = some (.ref f_law)
  b_law : Binds K fd_law ["_law_script"] []
  m_abs : mg "abs" = none
  m_all : mg "all" = none
  m_bool : mg "bool" = none
  m_divmod : mg "divmod" = none
  m_enumerate : mg "enumerate" = none
  m_int : mg "int" = none
  m_isinstance : mg "isinstance" = none
  m_len : mg "len" = none
  m_list : mg "list" = none
  m_max : mg "max" = none
  m_range : mg "range" = none
  m_repr : mg "repr" = none
  m_str : mg "str" = none
  m_tuple : mg "tuple" = none
  c_WORDS : ∃ t, mg "WORDS" = some (.int 65536 t)
  c_ADDRESSES : ∃ t, mg "ADDRESSES" = some (.int 4096 t)
  c_PLACES : ∃ t, mg "PLACES" = some (.int 1024 t)
  c_REGISTERS : ∃ t, mg "REGISTERS" = some (.int 8 t)
  c__ROW_PARTS : ∃ t, mg "_ROW_PARTS" = some (.int 7 t)
  c__GREATEST_CAUSE : ∃ t, mg "_GREATEST_CAUSE" = some (.int 31 t)
  D_ki : Addr
  g_ki : mg "_KINDS" = some (.ref D_ki)
  t_ki : KTab K w D_ki kiT kiNo
end K91

set_option Elab.async false
set_option linter.all false
set_option maxRecDepth 100000
set_option maxHeartbeats 8000000

namespace K91
open PySem PySem.Spec PyProof.Rows L2 Hx 
local macro_rules | `(tactic| walk_at "sm") => `(tactic| repeat' (first | assumption | apply Hx.Same.upd | exact L2.Same.refl _ | apply same_trans'))
local macro_rules | `(tactic| walk_at "hp") => `(tactic| repeat' (first | assumption | exact upd_same | apply old_upd | apply same_at))
local macro_rules | `(tactic| walk_at "rd") => `(tactic| repeat' (first | rfl | apply Exists.intro | apply And.intro | refine iteT ?_ | refine iteF ?_ | exact upd_same | exact SqL.of (by assumption) | exact SqL.of upd_same | exact SqT.of upd_same | exact SqT.of (by assumption) | ((with_reducible show (_ : Int) < _); omega) | ((with_reducible show (_ : Int) ≤ _); omega) | (show (_ : Prop); assumption) | exact Or.inl ⟨_, by assumption, rfl⟩ | exact Or.inl ⟨rfl, _, SqL.of (by assumption)⟩ | exact Or.inl ⟨rfl, _, SqL.of upd_same⟩ | apply old_upd | apply Hx.SqL.new | apply tyl_new | apply Pot.new | exact same_at (by assumption) (by assumption) | exact Or.inl (SqL.of (by assumption)) | exact Or.inl (by assumption) | exact Or.inl (SqL.of upd_same) | exact size_le (Nat.le_of_ble_eq_true rfl) | exact Nat.le_of_ble_eq_true rfl | exact True.intro | exact Or.inl rfl | exact Or.inr rfl | (show (_ : Prop); omega) | (show (_ : Prop); dsimp only; omega) | exact mulw64 (by omega) (by omega) | exact mulw64 (by (try dsimp only); omega) (by (try dsimp only); omega)))
local macro_rules | `(tactic| walk_at "mem") => `(tactic| ((repeat (first | exact List.Mem.head _ | apply List.Mem.tail | fail)); done))
local macro_rules | `(tactic| walk_at "setat") => `(tactic| ((repeat (first | (with_reducible exact At.head) | (with_reducible apply At.tail) | (with_reducible apply At.app) | fail)); done))
set_option hygiene false in
local macro_rules | `(tactic| walk_at "dv") => `(tactic| ((repeat' (first | exact Dv.nil | exact Dv.of (by walk_at "mem") | exact Dv.ints _ | exact Dv1.of (by walk_at "mem") | exact Dv1.int _ | exact Dv1.non | exact Dv1.bl _ | exact Dv1.str _ | (with_reducible apply Dv.cons) | refine Dv1.tup (by walk_at "mem") ?_ | refine Dv1.lst (by walk_at "mem") ?_ | (with_reducible apply Dv.app) | fail)); done))
local macro_rules | `(tactic| walk_at "ft") => `(tactic| (first | (with_reducible exact Ft.refl) | ((with_reducible apply Ft.toL); focus walk_at "dv") | ((with_reducible apply Ft.toS); focus assumption) | (with_reducible apply Ft.lst) | (with_reducible apply Ft.Le) | (with_reducible apply Ft.dK) | (with_reducible apply Ft.De) | (with_reducible apply Ft.ins) | (with_reducible apply Ft.toL) | (with_reducible apply Ft.toS) | (with_reducible apply Ft.toD) | fail))
local macro_rules | `(tactic| walk_at "sbL") => `(tactic| repeat' (first | (with_reducible exact Sb.refl _) | exact Sb.nil | (with_reducible apply Sb.cons) | (with_reducible apply Sb.app) | (with_reducible exact Pk.one) | (with_reducible exact Pk.here) | (with_reducible exact Pk.all) | (with_reducible apply Pk.skip1) | (with_reducible apply Pk.skipB) | (with_reducible apply Sb.skip) | (with_reducible apply Sb.skipB) | ((with_reducible show Ft _ _ _ _); walk_at "ft") | ((with_reducible show (_ : List _) = _); (first | rfl | (simp [List.map_set, List.map_append]; done) | fail)) | fail))
local macro_rules | `(tactic| walk_at "sb") => `(tactic| ((walk_at "sbL"); done))
local macro_rules | `(tactic| walk_at "ps") => `(tactic| ((repeat' (first | (with_reducible exact Ps.refl) | exact Ps.nil | (with_reducible apply Ps.cons) | exact List.Mem.head _ | apply List.Mem.tail | (with_reducible apply Ps.skip) | fail)); done))
set_option hygiene false in
local macro_rules | `(tactic| walk_at "at") => `(tactic| first | assumption | exact Own.raw hO (by walk_at "mem") | exact Own.ptup hO (by walk_at "mem") | exact Own.plst hO (by walk_at "mem") | fail)
set_option hygiene false in
local macro_rules | `(tactic| walk_at "st") => `(tactic| (rw [upd_mkO hO]; generalize e : updX _ _ _ = H1; (first | ((apply Own.cset hO e); (focus walk_at "setat"); (try clear hO e); intro hO) | ((apply Own.cnewT hO e); (focus assumption); (try clear hO e); intro hO) | ((apply Own.cnew hO e); (focus assumption); (try clear hO e); intro hO) | fail)))
set_option hygiene false in
local macro_rules | `(tactic| walk_at "mk") => `(tactic| (intro p1 p2 f1 f2 f3; rw [upd_mkO hO]; generalize e : upd (updX _ _ _) _ _ = H1; apply Own.cmake hO f1 f2 f3 e; (try clear hO e); intro hO))
set_option hygiene false in
local macro_rules | `(tactic| walk_at "own") => `(tactic| (first | ((apply Own.sub hO); (focus walk_at "sb"); (focus walk_at "ps")) | ((apply Own.sub hF); (focus walk_at "sb"); (focus walk_at "ps")) | fail))
set_option hygiene false in
local macro_rules | `(tactic| walk_at "fin") => `(tactic| (refine Own.sub hO ?_ (by walk_at "ps"); walk_at "sbL"))
set_option hygiene false in
local macro_rules | `(tactic| walk_at "g1") => `(tactic| (first
 | ((with_reducible show (_ : Option HO) = _); walk_at "at")
 | ((with_reducible show (_ : Int) < _); omega) | ((with_reducible show (_ : Int) ≤ _); omega)
 | ((with_reducible show (_ : Nat) < _); (first | assumption | exact Nat.le_of_ble_eq_true rfl | exact size_lt (Nat.le_of_ble_eq_true rfl) | omega | (simp; done) | (simp; omega) | fail))
 | ((with_reducible show (_ : Nat) ≤ _); (first | assumption | exact Nat.le_of_ble_eq_true rfl | exact size_le (Nat.le_of_ble_eq_true rfl) | omega | (simp; done) | (simp; omega) | fail))
 | ((with_reducible show (_ : Pf) ∈ _); (first | assumption | (focus walk_at "mem") | ((repeat (with_reducible apply List.mem_cons_of_mem)); assumption) | fail))
 | ((with_reducible show Own _ _ _ _); (first | walk_at "own" | (walk_at "st"; walk_at "own") | fail))
 | ((with_reducible show SqL _ _ _ _); (first | assumption | exact SqL.of (by walk_at "at") | fail))
 | ((with_reducible show SqT _ _ _ _); (first | assumption | exact hO.psq (by walk_at "mem") | exact hO.psq (by assumption) | exact SqT.of (by walk_at "at") | fail))
   | ((with_reducible show V.ref _ = V.ref _); (first | rfl | fail))
 | ((with_reducible show DGet _ _ _ _); (first | exact DGet.ki (by walk_at "at") (by assumption) | exact DGet.kiF (by walk_at "at") (by assumption) | fail))
 | ((with_reducible show DPut _ _ _ _ _); exact DPut.ki (by walk_at "at") (by assumption))
 | ((with_reducible show Rd _ _ _); (first | exact Or.inl (by walk_at "at") | exact Or.inr ⟨_, by walk_at "at"⟩ | fail))
 | ((with_reducible show (∃ _ : List (Key × V), _) ∨ _); refine Or.inl ⟨_, by walk_at "at", ?_⟩)
 | ((with_reducible show Dv _ _ _ _); focus walk_at "dv") | ((with_reducible show Dv1 _ _ _ _); focus walk_at "dv")
 | ((with_reducible show IsD _ _); exact Or.inl ⟨_, Or.inl (by walk_at "at")⟩)
 | ((with_reducible show V.int _ = kV _); exact kV_int)
 | ((with_reducible show Option.isSome _ = true); (first | exact isSome_ofV (by assumption) | assumption | fail))
 | ((with_reducible show SqL _ _ _ _ ∨ SqT _ _ _ _); (first | exact Or.inl (by assumption) | exact Or.inr (by assumption) | exact Or.inl (SqL.of (by walk_at "at")) | exact Or.inr (SqT.of (by walk_at "at")) | fail))
 | ((with_reducible show Dp _ _ _ _); (first | assumption | exact hO.dpL (by walk_at "mem") | exact .lst (SqL.of (by walk_at "at")) (hO.all (by walk_at "dv")) | exact hO.one (by walk_at "dv") | fail))
 | ((with_reducible show TruV _ _ _ _); (first | exact Or.inl ⟨_, SqL.of (by walk_at "at"), rfl⟩ | exact Or.inr (Or.inr ⟨_, by walk_at "at", rfl⟩) | exact Or.inr (Or.inl ⟨_, SqT.of (by walk_at "at"), rfl⟩) | fail))
 | ((with_reducible show RgOk _ _); exact RgOk.of_le (by omega) (by omega) (by omega) (by omega))
 | rfl | (with_reducible assumption) | apply And.intro | apply Exists.intro | refine iteT ?_ | refine iteF ?_
 | (walk_at "st"; (try walk_at "fl"))
 | ((with_reducible show ∀ _ : Addr, _ = none → _); (fail_if_success (with_reducible show ∀ _ : Addr, _ = none → ∃ _ : Nat → Nat → Hp → Prop, _)); intro p fp; walk_at "st")
 | (refine Or.inl ⟨SqL.of (by walk_at "at"), ?_⟩) | (refine Or.inr ⟨SqT.of (by walk_at "at"), ?_⟩) | exact Or.inl ⟨_, by walk_at "at", rfl⟩ | exact Or.inl ⟨rfl, _, SqL.of (by walk_at "at")⟩ | exact tyl_of (by walk_at "at") | exact Or.inl (SqL.of (by walk_at "at")) | exact Or.inr (SqT.of (by walk_at "at")) | exact Or.inl (by walk_at "at") | exact size_le (Nat.le_of_ble_eq_true rfl) | exact Nat.le_of_ble_eq_true rfl | exact True.intro | exact Or.inl rfl | exact Or.inr rfl | (show (_ : Prop); assumption) | (show (_ : Prop); omega) | (show (_ : Prop); dsimp only; omega) | exact mulw64 (by omega) (by omega) | exact mulw64 (by (try dsimp only); omega) (by (try dsimp only); omega) | fail))
local macro_rules | `(tactic| walk_at "go") => `(tactic| repeat walk_at "g1")

section
variable {P : Program} {w : World} {K : PySem.W.Frag} {mg : Str → Option Value} {base : Heap}
def sp_is_integer : Sp := fun vs H Q _ => ∃ d, vs = [fv d] ∧ flatD d = true ∧ Q (.bl (intB d)) H
theorem ok_is_integer (T : Txt w K mg) : FnOk P w K mg base CX0 1 T.f_is_integer T.fd_is_integer ["value"] (sp_is_integer) := by
  refine T.F_is_integer.ok sc_is_integer (fun vs H Q E h => ?_) (fun cdv A outer s H vs Q E hr h => ?_)
  · obtain ⟨d, rfl, hd, k⟩ := h; rfl
  · obtain ⟨d, rfl, hd, k⟩ := h
    refine ⟨_, (pss_one (ps_ret (pe_and (pe_callB call_isi (by rfl) T.m_isinstance (by decide +kernel) (pa_cons (pv 0) (pa_cons (pe_bltn (v := .ty "int") (u := .type "int") (by rfl) T.m_int (by decide +kernel) rfl) pa_nil))) (pe_one (pe_not (pe_callB call_isi (by rfl) T.m_isinstance (by decide +kernel) (pa_cons (pv 0) (pa_cons (pe_bltn (v := .ty "bool") (u := .type "bool") (by rfl) T.m_bool (by decide +kernel) rfl) pa_nil)))))))), ?_⟩
    clear hr
    cases d with
    | int i =>
      refine ⟨_, rfl, _, _, _, _, true, rfl, .ty _, .base (.int _), kit_ty (by decide +kernel), true, rfl, iteT ?_⟩
      refine ⟨_, rfl, _, _, _, _, false, rfl, .ty _, .base (.int _), kit_ty (by decide +kernel), false, rfl, k⟩
    | bool b =>
      refine ⟨_, rfl, _, _, _, _, true, rfl, .ty _, .base (.bl _), kit_ty (by decide +kernel), true, rfl, iteT ?_⟩
      refine ⟨_, rfl, _, _, _, _, true, rfl, .ty _, .base (.bl _), kit_ty (by decide +kernel), true, rfl, k⟩
    | none => exact ⟨_, rfl, _, _, _, _, false, rfl, .ty _, .base .non, kit_ty (by decide +kernel), false, rfl, iteF k⟩
    | str x => exact ⟨_, rfl, _, _, _, _, false, rfl, .ty _, .base (.str _), kit_ty (by decide +kernel), false, rfl, iteF k⟩
    | _ => exact nomatch hd
def sp_is_between : Sp := fun vs H Q _ => ∃ (d : PyData) (a b : Int), vs = [fv d, .int a, .int b] ∧ flatD d = true ∧ Q (.bl (btwB d a b)) H
theorem ok_is_between (T : Txt w K mg) : FnOk P w K mg base CX0 2 T.f_is_between T.fd_is_between ["value", "least", "most"] (sp_is_between) := by
  have G_is_integer := ok_is_integer (P := P) (w := w) (base := base) T
  refine T.F_is_between.ok sc_is_between (fun vs H Q E h => ?_) (fun cdv A outer s H vs Q E hr h => ?_)
  · obtain ⟨d, a, b, rfl, hd, k⟩ := h; rfl
  · obtain ⟨d, a, b, rfl, hd, k⟩ := h
    refine ⟨_, (pss_one (ps_ret (pe_and (pe_call G_is_integer (hr.mono (by decide)) rfl T.g_is_integer T.F_is_integer.kp T.b_is_integer .nil pass0 (pa_cons (pv 0) pa_nil)) (pe_one (pe_chain op_le op_le (pv 1) (pv 0) (pv 2)))))), ?_⟩
    clear G_is_integer
    clear hr
    refine ⟨_, rfl, d, rfl, hd, ?_⟩
    cases d with
    | int i =>
      refine ⟨_, rfl, iteT ?_⟩
      walk_at "rd"
      refine iteD (fun h1 => ?_) (fun h1 => ?_)
      · walk_at "rd"; exact qbl k (by simp [btwB, h1])
      · exact qbl k (by simp [btwB, h1])
    | bool b => exact ⟨_, rfl, iteF k⟩
    | none => exact ⟨_, rfl, iteF k⟩
    | str x => exact ⟨_, rfl, iteF k⟩
    | _ => exact nomatch hd
/-- a list or a tuple stands at a -/
def OSq (L : List (Addr × Ob)) (P : List Pf) (a : Addr) (xs : List V) : Prop := (a, Ob.raw (.lst xs)) ∈ L ∨ Pf.tup a xs ∈ P
theorem OSq.mono {L : List (Addr × Ob)} {P P' : List Pf} {a : Addr} {xs : List V} (h : OSq L P a xs) (s : Ps P P') : OSq L P' a xs := h.imp id (s _)
theorem OSq.up {L L' : List (Addr × Ob)} {P : List Pf} {a : Addr} {xs : List V} (h : OSq L P a xs) (s : ∀ p ∈ L, p ∈ L') : OSq L' P a xs := h.imp (s _) id
theorem OSq.or {K : PySem.W.Frag} {H : Hp} {L : List (Addr × Ob)} {P : List Pf} {a : Addr} {xs : List V} (h : OSq L P a xs) (hO : Own K H L P) : SqL K H a xs ∨ SqT K H a xs := h.imp (fun m => SqL.of (hO.raw m)) (fun m => SqT.of (hO.ptup m))
def sp_is_list (K : PySem.W.Frag) : Sp := fun vs H Q _ => ∃ (a : Addr) (xs : List V) (L : List (Addr × Ob)) (P : List Pf), vs = [.ref a] ∧ Own K H L P ∧ OSq L P a xs ∧ ∀ (H' : Hp) (P' : List Pf), Ps P P' → Own K H' L P' → Q (.bl true) H'
theorem ok_is_list (T : Txt w K mg) : FnOk P w K mg base CX0 1 T.f_is_list T.fd_is_list ["value"] (sp_is_list K) := by
  refine T.F_is_list.ok sc_is_list (fun vs H Q E h => ?_) (fun cdv A outer s H vs Q E hr h => ?_)
  · obtain ⟨a, xs, L, P, rfl, hO, hs, k⟩ := h; rfl
  · obtain ⟨a, xs, L, P, rfl, hO, hs, k⟩ := h
    refine ⟨_, (pss_one (ps_ret (pe_callB call_isiT (by rfl) T.m_isinstance (by decide +kernel) (pa_cons (pv 0) (pa_cons (pe_tup (pa_cons (pe_bltn (v := .ty "list") (u := .type "list") (by rfl) T.m_list (by decide +kernel) rfl) (pa_cons (pe_bltn (v := .ty "tuple") (u := .type "tuple") (by rfl) T.m_tuple (by decide +kernel) rfl) pa_nil))) pa_nil))))), ?_⟩
    clear hr
    walk_at "rd"
    intro tp htp
    have h2 := hO.newT (vs := [.ty "list", .ty "tuple"]) htp rfl
    have kk := k _ _ (Ps.skip Ps.refl) h2
    rcases hs with h | h
    · exact ⟨_, _, [.ty "list", .ty "tuple"], _, _, true, rfl, upd_same, .cons (.ty _) (.cons (.ty _) .nil), .base (.lst (old_upd htp (hO.raw h))), kitAny_cons (kit_ty (b := "list") (r := true) (by decide +kernel)) (fun z => nomatch z) (fun _ => rfl), kk⟩
    · exact ⟨_, _, [.ty "list", .ty "tuple"], _, _, true, rfl, upd_same, .cons (.ty _) (.cons (.ty _) .nil), .base (.tup (old_upd htp (hO.ptup h))), kitAny_cons (kit_ty (b := "list") (r := false) (by decide +kernel)) (fun _ => kitAny_cons (kit_ty (b := "tuple") (r := true) (by decide +kernel)) (fun z => nomatch z) (fun _ => rfl)) (fun z => nomatch z), kk⟩
def sp_is_word : Sp := fun vs H Q _ => ∃ d, vs = [fv d] ∧ flatD d = true ∧ Q (.bl (btwB d 0 65535)) H
theorem ok_is_word (T : Txt w K mg) : FnOk P w K mg base CX0 3 T.f_is_word T.fd_is_word ["value"] (sp_is_word) := by
  have G_is_between := ok_is_between (P := P) (w := w) (base := base) T
  refine T.F_is_word.ok sc_is_word (fun vs H Q E h => ?_) (fun cdv A outer s H vs Q E hr h => ?_)
  · obtain ⟨d, rfl, hd, k⟩ := h; rfl
  · obtain ⟨d, rfl, hd, k⟩ := h
    refine ⟨_, (pss_one (ps_ret (pe_call G_is_between (hr.mono (by decide)) rfl T.g_is_between T.F_is_between.kp T.b_is_between .nil pass0 (pa_cons (pv 0) (pa_cons pe_int (pa_cons (pe_op op_sub (pe_gint rfl T.c_WORDS) pe_int) pa_nil)))))), ?_⟩
    clear G_is_between
    clear hr
    walk_at "rd"
def sp_is_address : Sp := fun vs H Q _ => ∃ d, vs = [fv d] ∧ flatD d = true ∧ Q (.bl (btwB d 0 4095)) H
theorem ok_is_address (T : Txt w K mg) : FnOk P w K mg base CX0 3 T.f_is_address T.fd_is_address ["value"] (sp_is_address) := by
  have G_is_between := ok_is_between (P := P) (w := w) (base := base) T
  refine T.F_is_address.ok sc_is_address (fun vs H Q E h => ?_) (fun cdv A outer s H vs Q E hr h => ?_)
  · obtain ⟨d, rfl, hd, k⟩ := h; rfl
  · obtain ⟨d, rfl, hd, k⟩ := h
    refine ⟨_, (pss_one (ps_ret (pe_call G_is_between (hr.mono (by decide)) rfl T.g_is_between T.F_is_between.kp T.b_is_between .nil pass0 (pa_cons (pv 0) (pa_cons pe_int (pa_cons (pe_op op_sub (pe_gint rfl T.c_ADDRESSES) pe_int) pa_nil)))))), ?_⟩
    clear G_is_between
    clear hr
    walk_at "rd"
def sp_is_place : Sp := fun vs H Q _ => ∃ d, vs = [fv d] ∧ flatD d = true ∧ Q (.bl (btwB d 0 1023)) H
theorem ok_is_place (T : Txt w K mg) : FnOk P w K mg base CX0 3 T.f_is_place T.fd_is_place ["value"] (sp_is_place) := by
  have G_is_between := ok_is_between (P := P) (w := w) (base := base) T
  refine T.F_is_place.ok sc_is_place (fun vs H Q E h => ?_) (fun cdv A outer s H vs Q E hr h => ?_)
  · obtain ⟨d, rfl, hd, k⟩ := h; rfl
  · obtain ⟨d, rfl, hd, k⟩ := h
    refine ⟨_, (pss_one (ps_ret (pe_call G_is_between (hr.mono (by decide)) rfl T.g_is_between T.F_is_between.kp T.b_is_between .nil pass0 (pa_cons (pv 0) (pa_cons pe_int (pa_cons (pe_op op_sub (pe_gint rfl T.c_PLACES) pe_int) pa_nil)))))), ?_⟩
    clear G_is_between
    clear hr
    walk_at "rd"
def sp_is_register : Sp := fun vs H Q _ => ∃ d, vs = [fv d] ∧ flatD d = true ∧ Q (.bl (btwB d 0 7)) H
theorem ok_is_register (T : Txt w K mg) : FnOk P w K mg base CX0 3 T.f_is_register T.fd_is_register ["value"] (sp_is_register) := by
  have G_is_between := ok_is_between (P := P) (w := w) (base := base) T
  refine T.F_is_register.ok sc_is_register (fun vs H Q E h => ?_) (fun cdv A outer s H vs Q E hr h => ?_)
  · obtain ⟨d, rfl, hd, k⟩ := h; rfl
  · obtain ⟨d, rfl, hd, k⟩ := h
    refine ⟨_, (pss_one (ps_ret (pe_call G_is_between (hr.mono (by decide)) rfl T.g_is_between T.F_is_between.kp T.b_is_between .nil pass0 (pa_cons (pv 0) (pa_cons pe_int (pa_cons (pe_op op_sub (pe_gint rfl T.c_REGISTERS) pe_int) pa_nil)))))), ?_⟩
    clear G_is_between
    clear hr
    walk_at "rd"
end
end K91

set_option Elab.async false
set_option linter.all false
set_option maxRecDepth 100000
set_option maxHeartbeats 8000000

namespace K91
open PySem PySem.Spec PyProof.Rows L2 Hx 
local macro_rules | `(tactic| walk_at "sm") => `(tactic| repeat' (first | assumption | apply Hx.Same.upd | exact L2.Same.refl _ | apply same_trans'))
local macro_rules | `(tactic| walk_at "hp") => `(tactic| repeat' (first | assumption | exact upd_same | apply old_upd | apply same_at))
local macro_rules | `(tactic| walk_at "rd") => `(tactic| repeat' (first | rfl | apply Exists.intro | apply And.intro | refine iteT ?_ | refine iteF ?_ | exact upd_same | exact SqL.of (by assumption) | exact SqL.of upd_same | exact SqT.of upd_same | exact SqT.of (by assumption) | ((with_reducible show (_ : Int) < _); omega) | ((with_reducible show (_ : Int) ≤ _); omega) | (show (_ : Prop); assumption) | exact Or.inl ⟨_, by assumption, rfl⟩ | exact Or.inl ⟨rfl, _, SqL.of (by assumption)⟩ | exact Or.inl ⟨rfl, _, SqL.of upd_same⟩ | apply old_upd | apply Hx.SqL.new | apply tyl_new | apply Pot.new | exact same_at (by assumption) (by assumption) | exact Or.inl (SqL.of (by assumption)) | exact Or.inl (by assumption) | exact Or.inl (SqL.of upd_same) | exact size_le (Nat.le_of_ble_eq_true rfl) | exact Nat.le_of_ble_eq_true rfl | exact True.intro | exact Or.inl rfl | exact Or.inr rfl | (show (_ : Prop); omega) | (show (_ : Prop); dsimp only; omega) | exact mulw64 (by omega) (by omega) | exact mulw64 (by (try dsimp only); omega) (by (try dsimp only); omega)))
local macro_rules | `(tactic| walk_at "mem") => `(tactic| ((repeat (first | exact List.Mem.head _ | apply List.Mem.tail | fail)); done))
local macro_rules | `(tactic| walk_at "setat") => `(tactic| ((repeat (first | (with_reducible exact At.head) | (with_reducible apply At.tail) | (with_reducible apply At.app) | fail)); done))
set_option hygiene false in
local macro_rules | `(tactic| walk_at "dv") => `(tactic| ((repeat' (first | exact Dv.nil | exact Dv.of (by walk_at "mem") | exact Dv.ints _ | exact Dv1.of (by walk_at "mem") | exact Dv1.int _ | exact Dv1.non | exact Dv1.bl _ | exact Dv1.str _ | (with_reducible apply Dv.cons) | refine Dv1.tup (by walk_at "mem") ?_ | refine Dv1.lst (by walk_at "mem") ?_ | (with_reducible apply Dv.app) | fail)); done))
local macro_rules | `(tactic| walk_at "ft") => `(tactic| (first | (with_reducible exact Ft.refl) | ((with_reducible apply Ft.toL); focus walk_at "dv") | ((with_reducible apply Ft.toS); focus assumption) | (with_reducible apply Ft.lst) | (with_reducible apply Ft.Le) | (with_reducible apply Ft.dK) | (with_reducible apply Ft.De) | (with_reducible apply Ft.ins) | (with_reducible apply Ft.toL) | (with_reducible apply Ft.toS) | (with_reducible apply Ft.toD) | fail))
local macro_rules | `(tactic| walk_at "sbL") => `(tactic| repeat' (first | (with_reducible exact Sb.refl _) | exact Sb.nil | (with_reducible apply Sb.cons) | (with_reducible apply Sb.app) | (with_reducible exact Pk.one) | (with_reducible exact Pk.here) | (with_reducible exact Pk.all) | (with_reducible apply Pk.skip1) | (with_reducible apply Pk.skipB) | (with_reducible apply Sb.skip) | (with_reducible apply Sb.skipB) | ((with_reducible show Ft _ _ _ _); walk_at "ft") | ((with_reducible show (_ : List _) = _); (first | rfl | (simp [List.map_set, List.map_append]; done) | fail)) | fail))
local macro_rules | `(tactic| walk_at "sb") => `(tactic| ((walk_at "sbL"); done))
local macro_rules | `(tactic| walk_at "ps") => `(tactic| ((repeat' (first | (with_reducible exact Ps.refl) | exact Ps.nil | (with_reducible apply Ps.cons) | exact List.Mem.head _ | apply List.Mem.tail | (with_reducible apply Ps.skip) | fail)); done))
set_option hygiene false in
local macro_rules | `(tactic| walk_at "at") => `(tactic| first | assumption | exact Own.raw hO (by walk_at "mem") | exact Own.ptup hO (by walk_at "mem") | exact Own.plst hO (by walk_at "mem") | fail)
set_option hygiene false in
local macro_rules | `(tactic| walk_at "st") => `(tactic| (rw [upd_mkO hO]; generalize e : updX _ _ _ = H1; (first | ((apply Own.cset hO e); (focus walk_at "setat"); (try clear hO e); intro hO) | ((apply Own.cnewT hO e); (focus assumption); (try clear hO e); intro hO) | ((apply Own.cnew hO e); (focus assumption); (try clear hO e); intro hO) | fail)))
set_option hygiene false in
local macro_rules | `(tactic| walk_at "mk") => `(tactic| (intro p1 p2 f1 f2 f3; rw [upd_mkO hO]; generalize e : upd (updX _ _ _) _ _ = H1; apply Own.cmake hO f1 f2 f3 e; (try clear hO e); intro hO))
set_option hygiene false in
local macro_rules | `(tactic| walk_at "own") => `(tactic| (first | ((apply Own.sub hO); (focus walk_at "sb"); (focus walk_at "ps")) | ((apply Own.sub hF); (focus walk_at "sb"); (focus walk_at "ps")) | fail))
set_option hygiene false in
local macro_rules | `(tactic| walk_at "fin") => `(tactic| (refine Own.sub hO ?_ (by walk_at "ps"); walk_at "sbL"))
set_option hygiene false in
local macro_rules | `(tactic| walk_at "g1") => `(tactic| (first
 | ((with_reducible show (_ : Option HO) = _); walk_at "at")
 | ((with_reducible show (_ : Int) < _); omega) | ((with_reducible show (_ : Int) ≤ _); omega)
 | ((with_reducible show (_ : Nat) < _); (first | assumption | exact Nat.le_of_ble_eq_true rfl | exact size_lt (Nat.le_of_ble_eq_true rfl) | omega | (simp; done) | (simp; omega) | fail))
 | ((with_reducible show (_ : Nat) ≤ _); (first | assumption | exact Nat.le_of_ble_eq_true rfl | exact size_le (Nat.le_of_ble_eq_true rfl) | omega | (simp; done) | (simp; omega) | fail))
 | ((with_reducible show (_ : Pf) ∈ _); (first | assumption | (focus walk_at "mem") | ((repeat (with_reducible apply List.mem_cons_of_mem)); assumption) | fail))
 | ((with_reducible show Own _ _ _ _); (first | walk_at "own" | (walk_at "st"; walk_at "own") | fail))
 | ((with_reducible show SqL _ _ _ _); (first | assumption | exact SqL.of (by walk_at "at") | fail))
 | ((with_reducible show SqT _ _ _ _); (first | assumption | exact hO.psq (by walk_at "mem") | exact hO.psq (by assumption) | exact SqT.of (by walk_at "at") | fail))
   | ((with_reducible show V.ref _ = V.ref _); (first | rfl | fail))
 | ((with_reducible show DGet _ _ _ _); (first | exact DGet.ki (by walk_at "at") (by assumption) | exact DGet.kiF (by walk_at "at") (by assumption) | fail))
 | ((with_reducible show DPut _ _ _ _ _); exact DPut.ki (by walk_at "at") (by assumption))
 | ((with_reducible show Rd _ _ _); (first | exact Or.inl (by walk_at "at") | exact Or.inr ⟨_, by walk_at "at"⟩ | fail))
 | ((with_reducible show (∃ _ : List (Key × V), _) ∨ _); refine Or.inl ⟨_, by walk_at "at", ?_⟩)
 | ((with_reducible show Dv _ _ _ _); focus walk_at "dv") | ((with_reducible show Dv1 _ _ _ _); focus walk_at "dv")
 | ((with_reducible show IsD _ _); exact Or.inl ⟨_, Or.inl (by walk_at "at")⟩)
 | ((with_reducible show V.int _ = kV _); exact kV_int)
 | ((with_reducible show Option.isSome _ = true); (first | exact isSome_ofV (by assumption) | assumption | fail))
 | ((with_reducible show SqL _ _ _ _ ∨ SqT _ _ _ _); (first | exact Or.inl (by assumption) | exact Or.inr (by assumption) | exact Or.inl (SqL.of (by walk_at "at")) | exact Or.inr (SqT.of (by walk_at "at")) | fail))
 | ((with_reducible show Dp _ _ _ _); (first | assumption | exact hO.dpL (by walk_at "mem") | exact .lst (SqL.of (by walk_at "at")) (hO.all (by walk_at "dv")) | exact hO.one (by walk_at "dv") | fail))
 | ((with_reducible show TruV _ _ _ _); (first | exact Or.inl ⟨_, SqL.of (by walk_at "at"), rfl⟩ | exact Or.inr (Or.inr ⟨_, by walk_at "at", rfl⟩) | exact Or.inr (Or.inl ⟨_, SqT.of (by walk_at "at"), rfl⟩) | fail))
 | ((with_reducible show RgOk _ _); exact RgOk.of_le (by omega) (by omega) (by omega) (by omega))
 | rfl | (with_reducible assumption) | apply And.intro | apply Exists.intro | refine iteT ?_ | refine iteF ?_
 | (walk_at "st"; (try walk_at "fl"))
 | ((with_reducible show ∀ _ : Addr, _ = none → _); (fail_if_success (with_reducible show ∀ _ : Addr, _ = none → ∃ _ : Nat → Nat → Hp → Prop, _)); intro p fp; walk_at "st")
 | (refine Or.inl ⟨SqL.of (by walk_at "at"), ?_⟩) | (refine Or.inr ⟨SqT.of (by walk_at "at"), ?_⟩) | exact Or.inl ⟨_, by walk_at "at", rfl⟩ | exact Or.inl ⟨rfl, _, SqL.of (by walk_at "at")⟩ | exact tyl_of (by walk_at "at") | exact Or.inl (SqL.of (by walk_at "at")) | exact Or.inr (SqT.of (by walk_at "at")) | exact Or.inl (by walk_at "at") | exact size_le (Nat.le_of_ble_eq_true rfl) | exact Nat.le_of_ble_eq_true rfl | exact True.intro | exact Or.inl rfl | exact Or.inr rfl | (show (_ : Prop); assumption) | (show (_ : Prop); omega) | (show (_ : Prop); dsimp only; omega) | exact mulw64 (by omega) (by omega) | exact mulw64 (by (try dsimp only); omega) (by (try dsimp only); omega) | fail))
local macro_rules | `(tactic| walk_at "go") => `(tactic| repeat walk_at "g1")

section
variable {P : Program} {w : World} {K : PySem.W.Frag} {mg : Str → Option Value} {base : Heap}
def sp_is_point (K : PySem.W.Frag) : Sp := fun vs H Q _ => ∃ (v : V) (kd : Option (List PyData)) (R : List (Addr × Ob)) (P : List Pf), vs = [v] ∧ Own K H R P ∧ AnyV K H P v kd ∧ (∀ n d, kd = some [.str n, d] → n ∈ (["at", "register", "place", "cause", "1"] : List Str)) ∧
  ∀ (H' : Hp) (P' : List Pf), Ps P P' → Own K H' R P' → Q (.bl (ptB kd)) H'
theorem ok_is_point (T : Txt w K mg) : FnOk P w K mg base CX0 3 T.f_is_point T.fd_is_point ["value"] (sp_is_point K) := by
  have G_is_between := ok_is_between (P := P) (w := w) (base := base) T
  refine T.F_is_point.ok sc_is_point (fun vs H Q E h => ?_) (fun cdv A outer s H vs Q E hr h => ?_)
  · obtain ⟨v, kd, R, P, rfl, hO, hv, hn, k⟩ := h; rfl
  · obtain ⟨v, kd, R, P, rfl, hO, hv, hn, k⟩ := h
    refine ⟨_, (pss_cons (ps_if (pt_not (PW.pt (pw_and (pt_val (pe_callB call_isi (by rfl) T.m_isinstance (by decide +kernel) (pa_cons (pv 0) (pa_cons (pe_bltn (v := .ty "tuple") (u := .type "tuple") (by rfl) T.m_tuple (by decide +kernel) rfl) pa_nil)))) (pw_and (pt_cmpR op_eq (pe_callB call_len_seq (by rfl) T.m_len (by decide +kernel) (pa_cons (pv 0) pa_nil)) pe_int (nomark _)) (pw_and (pt_val (pe_callB call_isi (by rfl) T.m_isinstance (by decide +kernel) (pa_cons (pe_ix ix_tup (pv 0) pe_int (fun _ _ => rfl)) (pa_cons (pe_bltn (v := .ty "str") (u := .type "str") (by rfl) T.m_str (by decide +kernel) rfl) pa_nil)))) (pw_and1 (pt_cmpR (op_stop (op_in_tab T.t_ki)) (pe_ix ix_tup (pv 0) pe_int (fun _ _ => rfl)) (pe_glob (v := .ref T.D_ki) rfl T.g_ki rfl) (by rfl))))))))
          (pss_one (ps_ret pe_bl))
          pss_nil)
        (pss_cons (ps_asg (pe_ix (ix_tab T.t_ki) (pe_glob (v := .ref T.D_ki) rfl T.g_ki rfl) (pe_ix ix_tup (pv 0) pe_int (fun _ _ => rfl)) (fun _ _ => rfl)) (pg_tup rfl (pgs_cons (pg_name (i := 1) sc_is_point.nd rfl (Or.inl rfl)) (pgs_cons (pg_name (i := 2) sc_is_point.nd rfl (Or.inl rfl)) (pgs_cons (pg_name (i := 3) sc_is_point.nd rfl (Or.inl rfl)) pgs_nil)))))
        (pss_one (ps_ret (pe_call G_is_between (hr.mono (by decide)) rfl T.g_is_between T.F_is_between.kp T.b_is_between .nil pass0 (pa_cons (pe_ix ix_tup (pv 0) pe_int (fun _ _ => rfl)) (pa_cons (pv 1) (pa_cons (pv 2) pa_nil)))))))), ?_⟩
    clear G_is_between
    clear hr
    cases kd with
    | none =>
      obtain ⟨ty, h1, h2⟩ := hv
      refine ⟨_, rfl, _, _, ty, .type "tuple", false, rfl, .ty _, h1, h2, ?_⟩
      walk_at "go"
      exact k _ _ Ps.refl hO
    | some ds =>
      obtain ⟨t, rfl, hm, hf, hz⟩ := hv
      have hS := hO.psq hm
      refine ⟨_, rfl, _, _, _, _, true, rfl, .ty _, tyx_tup hS, kit_ty (by decide +kernel), ?_⟩
      walk_at "go"
      by_cases hl : ds.length = 2
      · obtain ⟨x, y, rfl⟩ : ∃ x y, ds = [x, y] := by
          match ds, hl with
          | [x, y], _ => exact ⟨x, y, rfl⟩
        have fx := hf x List.mem_cons_self
        have fy := hf y (List.mem_cons_of_mem _ List.mem_cons_self)
        have at0 : atI ([x, y].map fv) (0 : Int) = some (fv x) := atI_nat (j := 0) rfl
        have at1 : atI ([x, y].map fv) (1 : Int) = some (fv y) := atI_nat (j := 1) rfl
        have e2 : decide (V.int (([x, y].map fv).length : Nat) = V.int (2 : Int)) = true := decide_eq_true rfl
        rw [e2]
        have cv : ClsV (.ty "str") (.type "str") := .ty _
        cases x with
        | str n =>
          have ty : TyX K H (fv (.str n)) (.type "str") := .base (.str _)
          have ks : PySem.W.kitOne K (.type "str") (.type "str") = some true := kit_ty (by decide +kernel)
          by_cases e1 : n = "1"
          · subst e1
            have nn : ("1" : Str) ∈ kiNo := List.mem_cons_self
            walk_at "go"
            refine ⟨"1", rfl, rfl, .inr ⟨nn, ?_⟩⟩
            walk_at "go"
            exact qbl (k _ _ Ps.refl hO) (ptB_no ki_no).symm
          · have hn4 : n ∈ (["at", "register", "place", "cause"] : List Str) := by
              have := hn n y rfl
              simp only [List.mem_cons, List.not_mem_nil, or_false] at this ⊢
              rcases this with h | h | h | h | h
              · exact .inl h
              · exact .inr (.inl h)
              · exact .inr (.inr (.inl h))
              · exact .inr (.inr (.inr h))
              · exact absurd h e1
            obtain ⟨a, b, c, hk, hkk⟩ := ki_cases hn4
            have hkt : (n, PyData.tuple [.int a, .int b, .int c]) ∈ kiT := List.mem_map_of_mem (f := fun t : Str × Int × Int × Int => (t.1, PyData.tuple [.int t.2.1, .int t.2.2.1, .int t.2.2.2])) hk
            walk_at "go"
            refine ⟨n, rfl, rfl, .inl ⟨⟨_, hkt⟩, ?_⟩⟩
            walk_at "go"
            intro v hvv
            obtain ⟨tb, rfl, hO⟩ := hO.opn (ds := [.int a, .int b, .int c]) (fun M _ => hvv M)
            have hB : SqT K H tb [.int a, .int b, .int c] := hO.psq (List.Mem.head _)
            walk_at "go"
            exact qbl (k _ _ (Ps.skip Ps.refl) hO) (ptB_at hkk).symm
        | int i =>
          have ty : TyX K H (fv (.int i)) (.type "int") := .base (.int _)
          have ks : PySem.W.kitOne K (.type "int") (.type "str") = some false := kit_ty (by decide +kernel)
          walk_at "go"
          exact k _ _ Ps.refl hO
        | bool i =>
          have ty : TyX K H (fv (.bool i)) (.type "bool") := .base (.bl _)
          have ks : PySem.W.kitOne K (.type "bool") (.type "str") = some false := kit_ty (by decide +kernel)
          walk_at "go"
          exact k _ _ Ps.refl hO
        | none =>
          have ty : TyX K H (fv .none) (.type "NoneType") := .base .non
          have ks : PySem.W.kitOne K (.type "NoneType") (.type "str") = some false := kit_ty (by decide +kernel)
          walk_at "go"
          exact k _ _ Ps.refl hO
        | _ => exact nomatch fx
      · have e2 : decide (V.int ((ds.map fv).length : Nat) = V.int (2 : Int)) = false := by
          rw [List.length_map]
          refine decide_eq_false fun h => ?_
          injection h with h
          omega
        rw [e2]
        walk_at "go"
        refine qbl (k _ _ Ps.refl hO) ?_
        match ds, hl with
        | [], _ => rfl
        | [_], _ => unfold ptB; split <;> simp_all
        | [_, _], h => exact absurd rfl h
        | _ :: _ :: _ :: _, _ => unfold ptB; split <;> simp_all
end
end K91

set_option Elab.async false
set_option linter.all false
set_option maxRecDepth 100000
set_option maxHeartbeats 8000000

namespace K91
open PySem PySem.Spec PyProof.Rows L2 Hx 
local macro_rules | `(tactic| walk_at "sm") => `(tactic| repeat' (first | assumption | apply Hx.Same.upd | exact L2.Same.refl _ | apply same_trans'))
local macro_rules | `(tactic| walk_at "hp") => `(tactic| repeat' (first | assumption | exact upd_same | apply old_upd | apply same_at))
local macro_rules | `(tactic| walk_at "rd") => `(tactic| repeat' (first | rfl | apply Exists.intro | apply And.intro | refine iteT ?_ | refine iteF ?_ | exact upd_same | exact SqL.of (by assumption) | exact SqL.of upd_same | exact SqT.of upd_same | exact SqT.of (by assumption) | ((with_reducible show (_ : Int) < _); omega) | ((with_reducible show (_ : Int) ≤ _); omega) | (show (_ : Prop); assumption) | exact Or.inl ⟨_, by assumption, rfl⟩ | exact Or.inl ⟨rfl, _, SqL.of (by assumption)⟩ | exact Or.inl ⟨rfl, _, SqL.of upd_same⟩ | apply old_upd | apply Hx.SqL.new | apply tyl_new | apply Pot.new | exact same_at (by assumption) (by assumption) | exact Or.inl (SqL.of (by assumption)) | exact Or.inl (by assumption) | exact Or.inl (SqL.of upd_same) | exact size_le (Nat.le_of_ble_eq_true rfl) | exact Nat.le_of_ble_eq_true rfl | exact True.intro | exact Or.inl rfl | exact Or.inr rfl | (show (_ : Prop); omega) | (show (_ : Prop); dsimp only; omega) | exact mulw64 (by omega) (by omega) | exact mulw64 (by (try dsimp only); omega) (by (try dsimp only); omega)))
local macro_rules | `(tactic| walk_at "mem") => `(tactic| ((repeat (first | exact List.Mem.head _ | apply List.Mem.tail | fail)); done))
local macro_rules | `(tactic| walk_at "setat") => `(tactic| ((repeat (first | (with_reducible exact At.head) | (with_reducible apply At.tail) | (with_reducible apply At.app) | fail)); done))
set_option hygiene false in
local macro_rules | `(tactic| walk_at "dv") => `(tactic| ((repeat' (first | exact Dv.nil | exact Dv.of (by walk_at "mem") | exact Dv.ints _ | exact Dv1.of (by walk_at "mem") | exact Dv1.int _ | exact Dv1.non | exact Dv1.bl _ | exact Dv1.str _ | (with_reducible apply Dv.cons) | refine Dv1.tup (by walk_at "mem") ?_ | refine Dv1.lst (by walk_at "mem") ?_ | (with_reducible apply Dv.app) | fail)); done))
local macro_rules | `(tactic| walk_at "ft") => `(tactic| (first | (with_reducible exact Ft.refl) | ((with_reducible apply Ft.toL); focus walk_at "dv") | ((with_reducible apply Ft.toS); focus assumption) | (with_reducible apply Ft.lst) | (with_reducible apply Ft.Le) | (with_reducible apply Ft.dK) | (with_reducible apply Ft.De) | (with_reducible apply Ft.ins) | (with_reducible apply Ft.toL) | (with_reducible apply Ft.toS) | (with_reducible apply Ft.toD) | fail))
local macro_rules | `(tactic| walk_at "sbL") => `(tactic| repeat' (first | (with_reducible exact Sb.refl _) | exact Sb.nil | (with_reducible apply Sb.cons) | (with_reducible apply Sb.app) | (with_reducible exact Pk.one) | (with_reducible exact Pk.here) | (with_reducible exact Pk.all) | (with_reducible apply Pk.skip1) | (with_reducible apply Pk.skipB) | (with_reducible apply Sb.skip) | (with_reducible apply Sb.skipB) | ((with_reducible show Ft _ _ _ _); walk_at "ft") | ((with_reducible show (_ : List _) = _); (first | rfl | (simp [List.map_set, List.map_append]; done) | fail)) | fail))
local macro_rules | `(tactic| walk_at "sb") => `(tactic| ((walk_at "sbL"); done))
local macro_rules | `(tactic| walk_at "ps") => `(tactic| ((repeat' (first | (with_reducible exact Ps.refl) | exact Ps.nil | (with_reducible apply Ps.cons) | exact List.Mem.head _ | apply List.Mem.tail | (with_reducible apply Ps.skip) | fail)); done))
set_option hygiene false in
local macro_rules | `(tactic| walk_at "at") => `(tactic| first | assumption | exact Own.raw hO (by walk_at "mem") | exact Own.ptup hO (by walk_at "mem") | exact Own.plst hO (by walk_at "mem") | fail)
set_option hygiene false in
local macro_rules | `(tactic| walk_at "st") => `(tactic| (rw [upd_mkO hO]; generalize e : updX _ _ _ = H1; (first | ((apply Own.cset hO e); (focus walk_at "setat"); (try clear hO e); intro hO) | ((apply Own.cnewT hO e); (focus assumption); (try clear hO e); intro hO) | ((apply Own.cnew hO e); (focus assumption); (try clear hO e); intro hO) | fail)))
set_option hygiene false in
local macro_rules | `(tactic| walk_at "mk") => `(tactic| (intro p1 p2 f1 f2 f3; rw [upd_mkO hO]; generalize e : upd (updX _ _ _) _ _ = H1; apply Own.cmake hO f1 f2 f3 e; (try clear hO e); intro hO))
set_option hygiene false in
local macro_rules | `(tactic| walk_at "own") => `(tactic| (first | ((apply Own.sub hO); (focus walk_at "sb"); (focus walk_at "ps")) | ((apply Own.sub hF); (focus walk_at "sb"); (focus walk_at "ps")) | fail))
set_option hygiene false in
local macro_rules | `(tactic| walk_at "fin") => `(tactic| (refine Own.sub hO ?_ (by walk_at "ps"); walk_at "sbL"))
set_option hygiene false in
local macro_rules | `(tactic| walk_at "g1") => `(tactic| (first
 | ((with_reducible show (_ : Option HO) = _); walk_at "at")
 | ((with_reducible show (_ : Int) < _); omega) | ((with_reducible show (_ : Int) ≤ _); omega)
 | ((with_reducible show (_ : Nat) < _); (first | assumption | exact Nat.le_of_ble_eq_true rfl | exact size_lt (Nat.le_of_ble_eq_true rfl) | omega | (simp; done) | (simp; omega) | fail))
 | ((with_reducible show (_ : Nat) ≤ _); (first | assumption | exact Nat.le_of_ble_eq_true rfl | exact size_le (Nat.le_of_ble_eq_true rfl) | omega | (simp; done) | (simp; omega) | fail))
 | ((with_reducible show (_ : Pf) ∈ _); (first | assumption | (focus walk_at "mem") | ((repeat (with_reducible apply List.mem_cons_of_mem)); assumption) | fail))
 | ((with_reducible show Own _ _ _ _); (first | walk_at "own" | (walk_at "st"; walk_at "own") | fail))
 | ((with_reducible show SqL _ _ _ _); (first | assumption | exact SqL.of (by walk_at "at") | fail))
 | ((with_reducible show SqT _ _ _ _); (first | assumption | exact hO.psq (by walk_at "mem") | exact hO.psq (by assumption) | exact SqT.of (by walk_at "at") | fail))
   | ((with_reducible show V.ref _ = V.ref _); (first | rfl | fail))
 | ((with_reducible show DGet _ _ _ _); (first | exact DGet.ki (by walk_at "at") (by assumption) | exact DGet.kiF (by walk_at "at") (by assumption) | fail))
 | ((with_reducible show DPut _ _ _ _ _); exact DPut.ki (by walk_at "at") (by assumption))
 | ((with_reducible show Rd _ _ _); (first | exact Or.inl (by walk_at "at") | exact Or.inr ⟨_, by walk_at "at"⟩ | fail))
 | ((with_reducible show (∃ _ : List (Key × V), _) ∨ _); refine Or.inl ⟨_, by walk_at "at", ?_⟩)
 | ((with_reducible show Dv _ _ _ _); focus walk_at "dv") | ((with_reducible show Dv1 _ _ _ _); focus walk_at "dv")
 | ((with_reducible show IsD _ _); exact Or.inl ⟨_, Or.inl (by walk_at "at")⟩)
 | ((with_reducible show V.int _ = kV _); exact kV_int)
 | ((with_reducible show Option.isSome _ = true); (first | exact isSome_ofV (by assumption) | assumption | fail))
 | ((with_reducible show SqL _ _ _ _ ∨ SqT _ _ _ _); (first | exact Or.inl (by assumption) | exact Or.inr (by assumption) | exact Or.inl (SqL.of (by walk_at "at")) | exact Or.inr (SqT.of (by walk_at "at")) | fail))
 | ((with_reducible show Dp _ _ _ _); (first | assumption | exact hO.dpL (by walk_at "mem") | exact .lst (SqL.of (by walk_at "at")) (hO.all (by walk_at "dv")) | exact hO.one (by walk_at "dv") | fail))
 | ((with_reducible show TruV _ _ _ _); (first | exact Or.inl ⟨_, SqL.of (by walk_at "at"), rfl⟩ | exact Or.inr (Or.inr ⟨_, by walk_at "at", rfl⟩) | exact Or.inr (Or.inl ⟨_, SqT.of (by walk_at "at"), rfl⟩) | fail))
 | ((with_reducible show RgOk _ _); exact RgOk.of_le (by omega) (by omega) (by omega) (by omega))
 | rfl | (with_reducible assumption) | apply And.intro | apply Exists.intro | refine iteT ?_ | refine iteF ?_
 | (walk_at "st"; (try walk_at "fl"))
 | ((with_reducible show ∀ _ : Addr, _ = none → _); (fail_if_success (with_reducible show ∀ _ : Addr, _ = none → ∃ _ : Nat → Nat → Hp → Prop, _)); intro p fp; walk_at "st")
 | (refine Or.inl ⟨SqL.of (by walk_at "at"), ?_⟩) | (refine Or.inr ⟨SqT.of (by walk_at "at"), ?_⟩) | exact Or.inl ⟨_, by walk_at "at", rfl⟩ | exact Or.inl ⟨rfl, _, SqL.of (by walk_at "at")⟩ | exact tyl_of (by walk_at "at") | exact Or.inl (SqL.of (by walk_at "at")) | exact Or.inr (SqT.of (by walk_at "at")) | exact Or.inl (by walk_at "at") | exact size_le (Nat.le_of_ble_eq_true rfl) | exact Nat.le_of_ble_eq_true rfl | exact True.intro | exact Or.inl rfl | exact Or.inr rfl | (show (_ : Prop); assumption) | (show (_ : Prop); omega) | (show (_ : Prop); dsimp only; omega) | exact mulw64 (by omega) (by omega) | exact mulw64 (by (try dsimp only); omega) (by (try dsimp only); omega) | fail))
local macro_rules | `(tactic| walk_at "go") => `(tactic| repeat walk_at "g1")

section
variable {P : Program} {w : World} {K : PySem.W.Frag} {mg : Str → Option Value} {base : Heap}
def sp_is_row (K : PySem.W.Frag) : Sp := fun vs H Q _ => ∃ (v : V) (kd : Option (List PyData)) (R : List (Addr × Ob)) (P : List Pf), vs = [v] ∧ Own K H R P ∧ AnyV K H P v kd ∧ Q (.bl (rowB kd)) H
theorem ok_is_row (T : Txt w K mg) : FnOk P w K mg base CX0 4 T.f_is_row T.fd_is_row ["value"] (sp_is_row K) := by
  have G_is_between := ok_is_between (P := P) (w := w) (base := base) T
  have G_is_word := ok_is_word (P := P) (w := w) (base := base) T
  have G_is_address := ok_is_address (P := P) (w := w) (base := base) T
  have G_is_register := ok_is_register (P := P) (w := w) (base := base) T
  have G_is_place := ok_is_place (P := P) (w := w) (base := base) T
  refine T.F_is_row.ok sc_is_row (fun vs H Q E h => ?_) (fun cdv A outer s H vs Q E hr h => ?_)
  · obtain ⟨v, kd, R, P, rfl, hO, hv, k⟩ := h; rfl
  · obtain ⟨v, kd, R, P, rfl, hO, hv, k⟩ := h
    refine ⟨_, (pss_cons (ps_if (pt_not (PW.pt (pw_and (pt_val (pe_callB call_isi (by rfl) T.m_isinstance (by decide +kernel) (pa_cons (pv 0) (pa_cons (pe_bltn (v := .ty "tuple") (u := .type "tuple") (by rfl) T.m_tuple (by decide +kernel) rfl) pa_nil)))) (pw_and1 (pt_cmpR op_eq (pe_callB call_len_seq (by rfl) T.m_len (by decide +kernel) (pa_cons (pv 0) pa_nil)) (pe_gint rfl T.c__ROW_PARTS) (nomark _))))))
          (pss_one (ps_ret pe_bl))
          pss_nil)
        (pss_cons (ps_asg (pv 0) (pg_tup rfl (pgs_cons (pg_name (i := 1) sc_is_row.nd rfl (Or.inl rfl)) (pgs_cons (pg_name (i := 2) sc_is_row.nd rfl (Or.inl rfl)) (pgs_cons (pg_name (i := 3) sc_is_row.nd rfl (Or.inl rfl)) (pgs_cons (pg_name (i := 4) sc_is_row.nd rfl (Or.inl rfl)) (pgs_cons (pg_name (i := 5) sc_is_row.nd rfl (Or.inl rfl)) (pgs_cons (pg_name (i := 6) sc_is_row.nd rfl (Or.inl rfl)) (pgs_cons (pg_name (i := 7) sc_is_row.nd rfl (Or.inl rfl)) pgs_nil)))))))))
        (pss_cons (ps_if (pt_mid (pt_not (PW.pt (pw_and (pt_val (pe_call G_is_address (hr.mono (by decide)) rfl T.g_is_address T.F_is_address.kp T.b_is_address .nil pass0 (pa_cons (pv 1) pa_nil))) (pw_and (PW.pt (pw_or (pt_cmpR op_isN (pv 2) pe_non (nomark _)) (pw_or1 (pt_val (pe_call G_is_word (hr.mono (by decide)) rfl T.g_is_word T.F_is_word.kp T.b_is_word .nil pass0 (pa_cons (pv 2) pa_nil)))))) (pw_and1 (pt_val (pe_call G_is_between (hr.mono (by decide)) rfl T.g_is_between T.F_is_between.kp T.b_is_between .nil pass0 (pa_cons (pv 3) (pa_cons pe_int (pa_cons (pe_gint rfl T.c__GREATEST_CAUSE) pa_nil)))))))))))
          (pss_one (ps_ret pe_bl))
          pss_nil)
        (pss_cons (ps_if (pt_mid (pt_not (PW.pt (pw_or (PW.pt (pw_and (pt_cmpR op_isN (pv 4) pe_non (nomark _)) (pw_and1 (pt_cmpR op_isN (pv 5) pe_non (nomark _))))) (pw_or1 (PW.pt (pw_and (pt_val (pe_call G_is_register (hr.mono (by decide)) rfl T.g_is_register T.F_is_register.kp T.b_is_register .nil pass0 (pa_cons (pv 4) pa_nil))) (pw_and1 (pt_val (pe_call G_is_word (hr.mono (by decide)) rfl T.g_is_word T.F_is_word.kp T.b_is_word .nil pass0 (pa_cons (pv 5) pa_nil)))))))))))
          (pss_one (ps_ret pe_bl))
          pss_nil)
        (pss_one (ps_ret (pe_or (pe_and (pe_cmpR op_isN (pv 6) pe_non (nomark _)) (pe_one (pe_cmpR op_isN (pv 7) pe_non (nomark _)))) (pe_one (pe_and (pe_call G_is_place (hr.mono (by decide)) rfl T.g_is_place T.F_is_place.kp T.b_is_place .nil pass0 (pa_cons (pv 6) pa_nil)) (pe_one (pe_call G_is_word (hr.mono (by decide)) rfl T.g_is_word T.F_is_word.kp T.b_is_word .nil pass0 (pa_cons (pv 7) pa_nil)))))))))))), ?_⟩
    clear G_is_between G_is_word G_is_address G_is_register G_is_place
    clear hr
    cases kd with
    | none =>
      obtain ⟨ty, h1, h2⟩ := hv
      refine ⟨_, rfl, _, _, ty, .type "tuple", false, rfl, .ty _, h1, h2, ?_⟩
      walk_at "go"
    | some ds =>
      obtain ⟨t, rfl, hm, hf, hz⟩ := hv
      have hS := hO.psq hm
      refine ⟨_, rfl, _, _, _, _, true, rfl, .ty _, tyx_tup hS, kit_ty (by decide +kernel), ?_⟩
      walk_at "go"
      by_cases hl : ds.length = 7
      · obtain ⟨d0, d1, d2, d3, d4, d5, d6, rfl⟩ : ∃ a b c d e f g, ds = [a, b, c, d, e, f, g] := by
          match ds, hl with
          | [a, b, c, d, e, f, g], _ => exact ⟨a, b, c, d, e, f, g, rfl⟩
        have f0 := hf d0 (by simp)
        have f1 := hf d1 (by simp)
        have f2 := hf d2 (by simp)
        have f3 := hf d3 (by simp)
        have f4 := hf d4 (by simp)
        have f5 := hf d5 (by simp)
        have f6 := hf d6 (by simp)
        have e2 : decide (V.int (([d0, d1, d2, d3, d4, d5, d6].map fv).length : Nat) = V.int (7 : Int)) = true := decide_eq_true rfl
        rw [e2]
        walk_at "go"
        refine Stop.mk ⟨fun b H' => Stop (b = !headB d0 d1 d2 ∧ H' = H), ?_, fun b H' hM => ?_⟩
        · walk_at "go"
          cases h0 : btwB d0 0 4095 with
          | true =>
            walk_at "go"
            cases h1 : decide (fv d1 = V.non) with
            | true =>
              walk_at "go"
              cases h2 : btwB d2 0 31 with
              | true =>
                walk_at "go"
                exact ⟨(by simp [headB, noneB, h0, h1, h2]), rfl⟩
              | false =>
                walk_at "go"
                exact ⟨(by simp [headB, noneB, h0, h1, h2]), rfl⟩
            | false =>
              walk_at "go"
              cases h3 : btwB d1 0 65535 with
              | true =>
                walk_at "go"
                cases h2 : btwB d2 0 31 with
                | true =>
                  walk_at "go"
                  exact ⟨(by simp [headB, noneB, h0, h1, h3, h2]), rfl⟩
                | false =>
                  walk_at "go"
                  exact ⟨(by simp [headB, noneB, h0, h1, h3, h2]), rfl⟩
              | false =>
                walk_at "go"
                exact ⟨(by simp [headB, noneB, h0, h1, h3]), rfl⟩
          | false =>
            walk_at "go"
            exact ⟨(by simp [headB, noneB, h0]), rfl⟩
        obtain ⟨hb, rfl⟩ := hM.h
        cases hh : headB d0 d1 d2 with
        | false =>
          rw [hh] at hb
          subst hb
          walk_at "go"
          exact qbl k (by simp [rowB, hh])
        | true =>
          rw [hh] at hb
          subst hb
          walk_at "go"
          refine Stop.mk ⟨fun b H9 => Stop (b = !twoB d3 d4 7 ∧ H9 = H'), ?_, fun b H9 hM => ?_⟩
          · walk_at "go"
            cases ga : decide (fv d3 = V.non) with
            | true =>
              walk_at "go"
              cases gb : decide (fv d4 = V.non) with
              | true =>
                walk_at "go"
                exact ⟨(by simp [twoB, noneB, ga, gb]), rfl⟩
              | false =>
                walk_at "go"
                cases gc : btwB d3 0 7 with
                | true =>
                  walk_at "go"
                  cases gd : btwB d4 0 65535 with
                  | true =>
                    walk_at "go"
                    exact ⟨(by simp [twoB, noneB, ga, gb, gc, gd]), rfl⟩
                  | false =>
                    walk_at "go"
                    exact ⟨(by simp [twoB, noneB, ga, gb, gc, gd]), rfl⟩
                | false =>
                  walk_at "go"
                  exact ⟨(by simp [twoB, noneB, ga, gb, gc]), rfl⟩
            | false =>
              walk_at "go"
              cases gc : btwB d3 0 7 with
              | true =>
                walk_at "go"
                cases gd : btwB d4 0 65535 with
                | true =>
                  walk_at "go"
                  exact ⟨(by simp [twoB, noneB, ga, gc, gd]), rfl⟩
                | false =>
                  walk_at "go"
                  exact ⟨(by simp [twoB, noneB, ga, gc, gd]), rfl⟩
              | false =>
                walk_at "go"
                exact ⟨(by simp [twoB, noneB, ga, gc]), rfl⟩
          obtain ⟨hb, rfl⟩ := hM.h
          cases gg : twoB d3 d4 7 with
          | false =>
            rw [gg] at hb
            subst hb
            walk_at "go"
            exact qbl k (by simp [rowB, hh, gg])
          | true =>
            rw [gg] at hb
            subst hb
            have er : rowB (some [d0, d1, d2, d3, d4, d5, d6]) = twoB d5 d6 1023 := by simp [rowB, hh, gg]
            walk_at "go"
            cases qa : decide (fv d5 = V.non) with
            | true =>
              walk_at "go"
              cases qb : decide (fv d6 = V.non) with
              | true =>
                walk_at "go"
                exact qbl k (by rw [er]; simp [twoB, noneB, qa, qb])
              | false =>
                walk_at "go"
                cases qc : btwB d5 0 1023 with
                | true =>
                  walk_at "go"
                  cases qd : btwB d6 0 65535 with
                  | true =>
                    walk_at "go"
                    exact qbl k (by rw [er]; simp [twoB, noneB, qa, qb, qc, qd])
                  | false =>
                    walk_at "go"
                    exact qbl k (by rw [er]; simp [twoB, noneB, qa, qb, qc, qd])
                | false =>
                  walk_at "go"
                  exact qbl k (by rw [er]; simp [twoB, noneB, qa, qb, qc])
            | false =>
              walk_at "go"
              cases qc : btwB d5 0 1023 with
              | true =>
                walk_at "go"
                cases qd : btwB d6 0 65535 with
                | true =>
                  walk_at "go"
                  exact qbl k (by rw [er]; simp [twoB, noneB, qa, qc, qd])
                | false =>
                  walk_at "go"
                  exact qbl k (by rw [er]; simp [twoB, noneB, qa, qc, qd])
              | false =>
                walk_at "go"
                exact qbl k (by rw [er]; simp [twoB, noneB, qa, qc])
      · have e2 : decide (V.int ((ds.map fv).length : Nat) = V.int (7 : Int)) = false := by
          rw [List.length_map]
          refine decide_eq_false fun h => ?_
          injection h with h
          omega
        rw [e2]
        walk_at "go"
        refine qbl k ?_
        unfold rowB
        split
        · simp_all
        · rfl
end
end K91

set_option Elab.async false
set_option linter.all false
set_option maxRecDepth 100000
set_option maxHeartbeats 8000000

namespace K91
open PySem PySem.Spec PyProof.Rows L2 Hx 
local macro_rules | `(tactic| walk_at "sm") => `(tactic| repeat' (first | assumption | apply Hx.Same.upd | exact L2.Same.refl _ | apply same_trans'))
local macro_rules | `(tactic| walk_at "hp") => `(tactic| repeat' (first | assumption | exact upd_same | apply old_upd | apply same_at))
local macro_rules | `(tactic| walk_at "rd") => `(tactic| repeat' (first | rfl | apply Exists.intro | apply And.intro | refine iteT ?_ | refine iteF ?_ | exact upd_same | exact SqL.of (by assumption) | exact SqL.of upd_same | exact SqT.of upd_same | exact SqT.of (by assumption) | ((with_reducible show (_ : Int) < _); omega) | ((with_reducible show (_ : Int) ≤ _); omega) | (show (_ : Prop); assumption) | exact Or.inl ⟨_, by assumption, rfl⟩ | exact Or.inl ⟨rfl, _, SqL.of (by assumption)⟩ | exact Or.inl ⟨rfl, _, SqL.of upd_same⟩ | apply old_upd | apply Hx.SqL.new | apply tyl_new | apply Pot.new | exact same_at (by assumption) (by assumption) | exact Or.inl (SqL.of (by assumption)) | exact Or.inl (by assumption) | exact Or.inl (SqL.of upd_same) | exact size_le (Nat.le_of_ble_eq_true rfl) | exact Nat.le_of_ble_eq_true rfl | exact True.intro | exact Or.inl rfl | exact Or.inr rfl | (show (_ : Prop); omega) | (show (_ : Prop); dsimp only; omega) | exact mulw64 (by omega) (by omega) | exact mulw64 (by (try dsimp only); omega) (by (try dsimp only); omega)))
local macro_rules | `(tactic| walk_at "mem") => `(tactic| ((repeat (first | exact List.Mem.head _ | apply List.Mem.tail | fail)); done))
local macro_rules | `(tactic| walk_at "setat") => `(tactic| ((repeat (first | (with_reducible exact At.head) | (with_reducible apply At.tail) | (with_reducible apply At.app) | fail)); done))
set_option hygiene false in
local macro_rules | `(tactic| walk_at "dv") => `(tactic| ((repeat' (first | exact Dv.nil | exact Dv.of (by walk_at "mem") | exact Dv.ints _ | exact Dv1.of (by walk_at "mem") | exact Dv1.int _ | exact Dv1.non | exact Dv1.bl _ | exact Dv1.str _ | (with_reducible apply Dv.cons) | refine Dv1.tup (by walk_at "mem") ?_ | refine Dv1.lst (by walk_at "mem") ?_ | (with_reducible apply Dv.app) | fail)); done))
local macro_rules | `(tactic| walk_at "ft") => `(tactic| (first | (with_reducible exact Ft.refl) | ((with_reducible apply Ft.toL); focus walk_at "dv") | ((with_reducible apply Ft.toS); focus assumption) | (with_reducible apply Ft.lst) | (with_reducible apply Ft.Le) | (with_reducible apply Ft.dK) | (with_reducible apply Ft.De) | (with_reducible apply Ft.ins) | (with_reducible apply Ft.toL) | (with_reducible apply Ft.toS) | (with_reducible apply Ft.toD) | fail))
local macro_rules | `(tactic| walk_at "sbL") => `(tactic| repeat' (first | (with_reducible exact Sb.refl _) | exact Sb.nil | (with_reducible apply Sb.cons) | (with_reducible apply Sb.app) | (with_reducible exact Pk.one) | (with_reducible exact Pk.here) | (with_reducible exact Pk.all) | (with_reducible apply Pk.skip1) | (with_reducible apply Pk.skipB) | (with_reducible apply Sb.skip) | (with_reducible apply Sb.skipB) | ((with_reducible show Ft _ _ _ _); walk_at "ft") | ((with_reducible show (_ : List _) = _); (first | rfl | (simp [List.map_set, List.map_append]; done) | fail)) | fail))
local macro_rules | `(tactic| walk_at "sb") => `(tactic| ((walk_at "sbL"); done))
local macro_rules | `(tactic| walk_at "ps") => `(tactic| ((repeat' (first | (with_reducible exact Ps.refl) | exact Ps.nil | (with_reducible apply Ps.cons) | exact List.Mem.head _ | apply List.Mem.tail | (with_reducible apply Ps.skip) | fail)); done))
set_option hygiene false in
local macro_rules | `(tactic| walk_at "at") => `(tactic| first | assumption | exact Own.raw hO (by walk_at "mem") | exact Own.ptup hO (by walk_at "mem") | exact Own.plst hO (by walk_at "mem") | fail)
set_option hygiene false in
local macro_rules | `(tactic| walk_at "st") => `(tactic| (rw [upd_mkO hO]; generalize e : updX _ _ _ = H1; (first | ((apply Own.cset hO e); (focus walk_at "setat"); (try clear hO e); intro hO) | ((apply Own.cnewT hO e); (focus assumption); (try clear hO e); intro hO) | ((apply Own.cnew hO e); (focus assumption); (try clear hO e); intro hO) | fail)))
set_option hygiene false in
local macro_rules | `(tactic| walk_at "mk") => `(tactic| (intro p1 p2 f1 f2 f3; rw [upd_mkO hO]; generalize e : upd (updX _ _ _) _ _ = H1; apply Own.cmake hO f1 f2 f3 e; (try clear hO e); intro hO))
set_option hygiene false in
local macro_rules | `(tactic| walk_at "own") => `(tactic| (first | ((apply Own.sub hO); (focus walk_at "sb"); (focus walk_at "ps")) | ((apply Own.sub hF); (focus walk_at "sb"); (focus walk_at "ps")) | fail))
set_option hygiene false in
local macro_rules | `(tactic| walk_at "fin") => `(tactic| (refine Own.sub hO ?_ (by walk_at "ps"); walk_at "sbL"))
set_option hygiene false in
local macro_rules | `(tactic| walk_at "g1") => `(tactic| (first
 | ((with_reducible show (_ : Option HO) = _); walk_at "at")
 | ((with_reducible show (_ : Int) < _); omega) | ((with_reducible show (_ : Int) ≤ _); omega)
 | ((with_reducible show (_ : Nat) < _); (first | assumption | exact Nat.le_of_ble_eq_true rfl | exact size_lt (Nat.le_of_ble_eq_true rfl) | omega | (simp; done) | (simp; omega) | fail))
 | ((with_reducible show (_ : Nat) ≤ _); (first | assumption | exact Nat.le_of_ble_eq_true rfl | exact size_le (Nat.le_of_ble_eq_true rfl) | omega | (simp; done) | (simp; omega) | fail))
 | ((with_reducible show (_ : Pf) ∈ _); (first | assumption | (focus walk_at "mem") | ((repeat (with_reducible apply List.mem_cons_of_mem)); assumption) | fail))
 | ((with_reducible show Own _ _ _ _); (first | walk_at "own" | (walk_at "st"; walk_at "own") | fail))
 | ((with_reducible show SqL _ _ _ _); (first | assumption | exact SqL.of (by walk_at "at") | fail))
 | ((with_reducible show SqT _ _ _ _); (first | assumption | exact hO.psq (by walk_at "mem") | exact hO.psq (by assumption) | exact SqT.of (by walk_at "at") | fail))
   | ((with_reducible show V.ref _ = V.ref _); (first | rfl | fail))
 | ((with_reducible show DGet _ _ _ _); (first | exact DGet.ki (by walk_at "at") (by assumption) | exact DGet.kiF (by walk_at "at") (by assumption) | fail))
 | ((with_reducible show DPut _ _ _ _ _); exact DPut.ki (by walk_at "at") (by assumption))
 | ((with_reducible show Rd _ _ _); (first | exact Or.inl (by walk_at "at") | exact Or.inr ⟨_, by walk_at "at"⟩ | fail))
 | ((with_reducible show (∃ _ : List (Key × V), _) ∨ _); refine Or.inl ⟨_, by walk_at "at", ?_⟩)
 | ((with_reducible show Dv _ _ _ _); focus walk_at "dv") | ((with_reducible show Dv1 _ _ _ _); focus walk_at "dv")
 | ((with_reducible show IsD _ _); exact Or.inl ⟨_, Or.inl (by walk_at "at")⟩)
 | ((with_reducible show V.int _ = kV _); exact kV_int)
 | ((with_reducible show Option.isSome _ = true); (first | exact isSome_ofV (by assumption) | assumption | fail))
 | ((with_reducible show SqL _ _ _ _ ∨ SqT _ _ _ _); (first | exact Or.inl (by assumption) | exact Or.inr (by assumption) | exact Or.inl (SqL.of (by walk_at "at")) | exact Or.inr (SqT.of (by walk_at "at")) | fail))
 | ((with_reducible show Dp _ _ _ _); (first | assumption | exact hO.dpL (by walk_at "mem") | exact .lst (SqL.of (by walk_at "at")) (hO.all (by walk_at "dv")) | exact hO.one (by walk_at "dv") | fail))
 | ((with_reducible show TruV _ _ _ _); (first | exact Or.inl ⟨_, SqL.of (by walk_at "at"), rfl⟩ | exact Or.inr (Or.inr ⟨_, by walk_at "at", rfl⟩) | exact Or.inr (Or.inl ⟨_, SqT.of (by walk_at "at"), rfl⟩) | fail))
 | ((with_reducible show RgOk _ _); exact RgOk.of_le (by omega) (by omega) (by omega) (by omega))
 | rfl | (with_reducible assumption) | apply And.intro | apply Exists.intro | refine iteT ?_ | refine iteF ?_
 | (walk_at "st"; (try walk_at "fl"))
 | ((with_reducible show ∀ _ : Addr, _ = none → _); (fail_if_success (with_reducible show ∀ _ : Addr, _ = none → ∃ _ : Nat → Nat → Hp → Prop, _)); intro p fp; walk_at "st")
 | (refine Or.inl ⟨SqL.of (by walk_at "at"), ?_⟩) | (refine Or.inr ⟨SqT.of (by walk_at "at"), ?_⟩) | exact Or.inl ⟨_, by walk_at "at", rfl⟩ | exact Or.inl ⟨rfl, _, SqL.of (by walk_at "at")⟩ | exact tyl_of (by walk_at "at") | exact Or.inl (SqL.of (by walk_at "at")) | exact Or.inr (SqT.of (by walk_at "at")) | exact Or.inl (by walk_at "at") | exact size_le (Nat.le_of_ble_eq_true rfl) | exact Nat.le_of_ble_eq_true rfl | exact True.intro | exact Or.inl rfl | exact Or.inr rfl | (show (_ : Prop); assumption) | (show (_ : Prop); omega) | (show (_ : Prop); dsimp only; omega) | exact mulw64 (by omega) (by omega) | exact mulw64 (by (try dsimp only); omega) (by (try dsimp only); omega) | fail))
local macro_rules | `(tactic| walk_at "go") => `(tactic| repeat walk_at "g1")

section
variable {P : Program} {w : World} {K : PySem.W.Frag} {mg : Str → Option Value} {base : Heap}
def pdP (p : Str × Int) : PyData := .tuple [.str p.1, .int p.2]
def okP (p : Str × Int) : Prop := ptB (some [.str p.1, .int p.2]) = true ∧ p.1 ∈ (["at", "register", "place", "cause"] : List Str)
def okR (r : List PyData) : Prop := r.all flatD = true ∧ rowB (some r) = true
theorem okR.len {r : List PyData} (h : okR r) : r.length = 7 := by
  obtain ⟨_, h⟩ := h
  unfold rowB at h
  split at h
  · rename_i e; injection e with e; rw [e]; rfl
  · cases h
theorem okR.flat {r : List PyData} (h : okR r) : ∀ d ∈ r, flatD d = true := List.all_eq_true.mp h.1
def sp_are_rows (K : PySem.W.Frag) : Sp := fun vs H Q _ => ∃ (a : Addr) (xs : List V) (rows : List (List PyData)) (R : List (Addr × Ob)) (P : List Pf), vs = [.ref a] ∧ Own K H R P ∧ OSq R P a xs ∧ Dv K P xs (rows.map PyData.tuple) ∧ (∀ r ∈ rows, okR r) ∧ rows.length ≤ 1000 ∧
  ∀ (H' : Hp) (P' : List Pf), Ps P P' → Own K H' R P' → Q (.bl true) H'
theorem ok_are_rows (T : Txt w K mg) : FnOk P w K mg base CX0 5 T.f_are_rows T.fd_are_rows ["value"] (sp_are_rows K) := by
  have G_is_row := ok_is_row (P := P) (w := w) (base := base) T
  have G_is_list := ok_is_list (P := P) (w := w) (base := base) T
  refine T.F_are_rows.ok sc_are_rows (fun vs H Q E h => ?_) (fun cdv A outer s H vs Q E hr h => ?_)
  · obtain ⟨a, xs, rows, R, P, rfl, hO, hs, hd, hi, hz, k⟩ := h; rfl
  · obtain ⟨a, xs, rows, R, P, rfl, hO, hs, hd, hi, hz, k⟩ := h
    refine ⟨_, (pss_one (ps_ret (pe_and (pe_call G_is_list (hr.mono (by decide)) rfl T.g_is_list T.F_is_list.kp T.b_is_list .nil pass0 (pa_cons (pv 0) pa_nil)) (pe_one (pe_callB (cr_all rfl) (by rfl) T.m_all (by decide +kernel) (pa_cons (pe_lc (own := [("one", 1)]) (g := gName 1) (tt := tYes) rfl sc_are_rows.nd (PI.or (pi_list (pv 0)) (pi_tup (pv 0))) (blkOk_by (N := ["value", "one"]) (sc := defScope s_are_rows) (by decide +kernel)) (fun _ _ _ _ _ => pg_name (i := 1) sc_are_rows.nd rfl (Or.inl rfl)) (fun _ _ _ _ _ => pts_nil) (fun _ _ _ _ _ => (pe_call G_is_row (hr.mono (by decide)) rfl T.g_is_row T.F_is_row.kp T.b_is_row .nil pass0 (pa_cons (pv 1) pa_nil)))) pa_nil)))))), ?_⟩
    clear G_is_row G_is_list
    clear hr
    refine ⟨_, rfl, a, xs, R, P, rfl, hO, hs, fun H1 P1 s1 hO => ?_⟩
    have hl : xs.length = rows.length := by have := (hO.all (hd.mono s1)).len; simpa using this
    walk_at "go"
    have hor := OSq.or (hs.mono s1) hO
    rcases hs with h | h
    · refine Or.inl ?_
      have sq1 : SqL K H1 a xs := SqL.of (hO.raw h)
      walk_at "go"
      intro D hD
      refine lc_rawW (walk_list (xs := xs)) ((rows.map fun _ => true).map V.bl) hO hD (by rw [List.length_map, List.length_map, hl]) (by omega) (fun H L' P' s t q => SqL.of (q.raw (s _ h))) (fun i v y H9 H' P' Qy hi9 hv hy sp hO ky => ?_) (fun H5 P5 sp5 hO => ?_)
      · obtain ⟨rfl, hv⟩ := hv
        have hir : i < rows.length := by omega
        have hr9 : rows[i]? = some rows[i] := List.getElem?_eq_getElem hir
        have hok := hi _ (List.getElem_mem hir)
        rw [List.getElem?_map, List.getElem?_map, hr9] at hy
        obtain rfl := Option.some.inj hy
        obtain ⟨t, rfl, hO⟩ := hO.opn (ds := rows[i]) ((hd.mono (s1.trans sp)).get hv (by rw [List.getElem?_map, hr9]; rfl)) hok.1
        refine ⟨rfl, _, rfl, ?_⟩
        refine ⟨_, some rows[i], _, _, rfl, hO, ⟨t, rfl, List.mem_cons_self, hok.flat, by rw [hok.len]; decide⟩, ?_⟩
        rw [hok.2]
        exact ky _ _ (Ps.skip Ps.refl) hO
      · walk_at "go"
        cases hall : (rows.map fun _ => true).all id with
        | true =>
          walk_at "go"
          refine k _ P5 (s1.trans sp5) ?_
          walk_at "fin"
        | false => exact absurd hall (by simp)
    · refine Or.inr ?_
      have sq1 : SqT K H1 a xs := SqT.of (hO.ptup (s1 _ h))
      walk_at "go"
      intro D hD
      refine lc_rawW (walk_tup (xs := xs)) ((rows.map fun _ => true).map V.bl) hO hD (by rw [List.length_map, List.length_map, hl]) (by omega) (fun H L' P' s t q => SqT.of (q.ptup (t _ (s1 _ h)))) (fun i v y H9 H' P' Qy hi9 hv hy sp hO ky => ?_) (fun H5 P5 sp5 hO => ?_)
      · obtain ⟨rfl, hv⟩ := hv
        have hir : i < rows.length := by omega
        have hr9 : rows[i]? = some rows[i] := List.getElem?_eq_getElem hir
        have hok := hi _ (List.getElem_mem hir)
        rw [List.getElem?_map, List.getElem?_map, hr9] at hy
        obtain rfl := Option.some.inj hy
        obtain ⟨t, rfl, hO⟩ := hO.opn (ds := rows[i]) ((hd.mono (s1.trans sp)).get hv (by rw [List.getElem?_map, hr9]; rfl)) hok.1
        refine ⟨rfl, _, rfl, ?_⟩
        refine ⟨_, some rows[i], _, _, rfl, hO, ⟨t, rfl, List.mem_cons_self, hok.flat, by rw [hok.len]; decide⟩, ?_⟩
        rw [hok.2]
        exact ky _ _ (Ps.skip Ps.refl) hO
      · walk_at "go"
        cases hall : (rows.map fun _ => true).all id with
        | true =>
          walk_at "go"
          refine k _ P5 (s1.trans sp5) ?_
          walk_at "fin"
        | false => exact absurd hall (by simp)
def sp_need_row (K : PySem.W.Frag) : Sp := fun vs H Q _ => ∃ (v : V) (r : List PyData) (R : List (Addr × Ob)) (P : List Pf), vs = [v] ∧ Own K H R P ∧ Dv1 K P v (.tuple r) ∧ okR r ∧
  ∀ (H' : Hp) (P' : List Pf), Ps P P' → Own K H' R P' → Q .non H'
theorem ok_need_row (T : Txt w K mg) : FnOk P w K mg base CX0 5 T.f_need_row T.fd_need_row ["value"] (sp_need_row K) := by
  have G_is_row := ok_is_row (P := P) (w := w) (base := base) T
  refine T.F_need_row.ok sc_need_row (fun vs H Q E h => ?_) (fun cdv A outer s H vs Q E hr h => ?_)
  · obtain ⟨v, r, R, P, rfl, hO, hd, hr2, k⟩ := h; rfl
  · obtain ⟨v, r, R, P, rfl, hO, hd, hr2, k⟩ := h
    refine ⟨_, (pss_one (ps_if (pt_not (pt_val (pe_call G_is_row (hr.mono (by decide)) rfl T.g_is_row T.F_is_row.kp T.b_is_row .nil pass0 (pa_cons (pv 0) pa_nil))))
          (pss_one ps_never)
          pss_nil)), ?_⟩
    clear G_is_row
    clear hr
    obtain ⟨t, rfl, hO⟩ := hO.opn (ds := r) hd hr2.1
    refine ⟨_, rfl, _, some r, _, _, rfl, hO, ⟨t, rfl, List.mem_cons_self, hr2.flat, by rw [hr2.len]; decide⟩, ?_⟩
    rw [hr2.2]
    walk_at "go"
    exact k _ _ (Ps.skip Ps.refl) hO
def sp_need_row_list (K : PySem.W.Frag) : Sp := fun vs H Q _ => ∃ (a : Addr) (xs : List V) (rows : List (List PyData)) (R : List (Addr × Ob)) (P : List Pf), vs = [.ref a] ∧ Own K H R P ∧ OSq R P a xs ∧ Dv K P xs (rows.map PyData.tuple) ∧ (∀ r ∈ rows, okR r) ∧ rows.length ≤ 1000 ∧
  ∀ (H' : Hp) (P' : List Pf), Ps P P' → Own K H' R P' → Q .non H'
theorem ok_need_row_list (T : Txt w K mg) : FnOk P w K mg base CX0 6 T.f_need_row_list T.fd_need_row_list ["value"] (sp_need_row_list K) := by
  have G_are_rows := ok_are_rows (P := P) (w := w) (base := base) T
  refine T.F_need_row_list.ok sc_need_row_list (fun vs H Q E h => ?_) (fun cdv A outer s H vs Q E hr h => ?_)
  · obtain ⟨a, xs, rows, R, P, rfl, hO, hs, hd, hi, hz, k⟩ := h; rfl
  · obtain ⟨a, xs, rows, R, P, rfl, hO, hs, hd, hi, hz, k⟩ := h
    refine ⟨_, (pss_one (ps_if (pt_not (pt_val (pe_call G_are_rows (hr.mono (by decide)) rfl T.g_are_rows T.F_are_rows.kp T.b_are_rows .nil pass0 (pa_cons (pv 0) pa_nil))))
          (pss_one ps_never)
          pss_nil)), ?_⟩
    clear G_are_rows
    clear hr
    refine ⟨_, rfl, a, xs, rows, R, P, rfl, hO, hs, hd, hi, hz, fun H1 P1 s1 hO => ?_⟩
    walk_at "go"
    exact k _ _ s1 hO
def sp_need_point (K : PySem.W.Frag) : Sp := fun vs H Q _ => ∃ (v : V) (p : Str × Int) (R : List (Addr × Ob)) (P : List Pf), vs = [v] ∧ Own K H R P ∧ Dv1 K P v (pdP p) ∧ okP p ∧
  ∀ (H' : Hp) (P' : List Pf), Ps P P' → Own K H' R P' → Q .non H'
theorem ok_need_point (T : Txt w K mg) : FnOk P w K mg base CX0 4 T.f_need_point T.fd_need_point ["value"] (sp_need_point K) := by
  have G_is_point := ok_is_point (P := P) (w := w) (base := base) T
  refine T.F_need_point.ok sc_need_point (fun vs H Q E h => ?_) (fun cdv A outer s H vs Q E hr h => ?_)
  · obtain ⟨v, p, R, P, rfl, hO, hd, hp, k⟩ := h; rfl
  · obtain ⟨v, p, R, P, rfl, hO, hd, hp, k⟩ := h
    refine ⟨_, (pss_one (ps_if (pt_not (pt_val (pe_call G_is_point (hr.mono (by decide)) rfl T.g_is_point T.F_is_point.kp T.b_is_point .nil pass0 (pa_cons (pv 0) pa_nil))))
          (pss_one ps_never)
          pss_nil)), ?_⟩
    clear G_is_point
    clear hr
    obtain ⟨t, rfl, hO⟩ := hO.opn (ds := [.str p.1, .int p.2]) hd
    refine ⟨_, rfl, _, some [.str p.1, .int p.2], _, _, rfl, hO, ⟨t, rfl, List.mem_cons_self, by intro d hd; simp only [List.mem_cons, List.not_mem_nil, or_false] at hd; rcases hd with rfl | rfl <;> rfl, by simp⟩, ?_, fun H1 P1 s1 hO => ?_⟩
    · intro n d h
      injection h with h
      injection h with h1 h2
      injection h1 with h1
      subst h1
      have := hp.2
      simp only [List.mem_cons, List.not_mem_nil, or_false] at this ⊢
      rcases this with h | h | h | h
      · exact .inl h
      · exact .inr (.inl h)
      · exact .inr (.inr (.inl h))
      · exact .inr (.inr (.inr (.inl h)))
    · rw [hp.1]
      walk_at "go"
      exact k _ _ ((Ps.skip Ps.refl).trans s1) hO
/-- whether a row meets a point -/
def meetB (p : Str × Int) (r : List PyData) : Bool := match kiOf p.1 with
  | some (_, _, c) => decide (fv (r[c.toNat]?.getD .none) = V.int p.2)
  | none => false
theorem at7 {r : List PyData} {c : Int} (hl : r.length = 7) (hc : 0 ≤ c ∧ c < 7) : atI (r.map fv) c = some (fv (r[c.toNat]?.getD .none)) := by
  obtain ⟨cn, rfl⟩ := Int.eq_ofNat_of_zero_le hc.1
  have h9 : cn < r.length := by rw [hl]; omega
  refine atI_nat ?_
  rw [List.getElem?_map, Int.toNat_natCast, List.getElem?_eq_getElem h9]
  rfl
theorem btwB_int {d : PyData} {a b : Int} (h : btwB d a b = true) : ∃ i, d = .int i := by
  cases d <;> first | exact ⟨_, rfl⟩ | exact nomatch h
theorem twoB_int {d e : PyData} {m : Int} (h : twoB d e m = true) : fv d = .non ∨ ∃ i, d = .int i := by
  unfold twoB at h
  rw [Bool.or_eq_true, Bool.and_eq_true, Bool.and_eq_true] at h
  rcases h with h | h
  · exact .inl (of_decide_eq_true h.1)
  · exact .inr (btwB_int h.1)
theorem scal7 {r : List PyData} {n : Str} {a b c : Int} {z : Int} (h : okR r) (hk : (n, a, b, c) ∈ kiL) : scal (fv (r[c.toNat]?.getD .none)) (fv (.int z)) = true := by
  obtain ⟨_, h⟩ := h
  unfold rowB at h
  split at h
  · rename_i a w c2 h2 t p2 s2 e
    injection e with e
    subst e
    unfold headB at h
    simp only [Bool.and_eq_true] at h
    obtain ⟨⟨⟨⟨h0, _⟩, hcc⟩, h3⟩, h5⟩ := h
    have e9 : ∀ {d : PyData}, (fv d = .non ∨ ∃ i, d = .int i) → scal (fv d) (fv (.int z)) = true := by
      rintro d (e | ⟨i, rfl⟩)
      · rw [e]; rfl
      · rfl
    simp only [kiL, List.mem_cons, List.not_mem_nil, or_false, Prod.mk.injEq] at hk
    rcases hk with ⟨_, _, _, rfl⟩ | ⟨_, _, _, rfl⟩ | ⟨_, _, _, rfl⟩ | ⟨_, _, _, rfl⟩
    · exact e9 (.inr (btwB_int h0))
    · exact e9 (twoB_int h3)
    · exact e9 (twoB_int h5)
    · exact e9 (.inr (btwB_int hcc))
  · cases h
def sp__meets (K : PySem.W.Frag) : Sp := fun vs H Q _ => ∃ (v u : V) (p : Str × Int) (r : List PyData) (R : List (Addr × Ob)) (P : List Pf), vs = [v, u] ∧ Own K H R P ∧ Dv1 K P v (pdP p) ∧ Dv1 K P u (.tuple r) ∧ okP p ∧ okR r ∧
  ∀ (H' : Hp) (P' : List Pf), Ps P P' → Own K H' R P' → Q (.bl (meetB p r)) H'
theorem ok__meets (T : Txt w K mg) : FnOk P w K mg base CX0 1 T.f__meets T.fd__meets ["point", "row"] (sp__meets K) := by
  refine T.F__meets.ok sc__meets (fun vs H Q E h => ?_) (fun cdv A outer s H vs Q E hr h => ?_)
  · obtain ⟨v, u, p, r, R, P, rfl, hO, hd, hd2, hp, hr2, k⟩ := h; rfl
  · obtain ⟨v, u, p, r, R, P, rfl, hO, hd, hd2, hp, hr2, k⟩ := h
    refine ⟨_, (pss_cons (ps_asg (pv 0) (pg_tup rfl (pgs_cons (pg_name (i := 2) sc__meets.nd rfl (Or.inl rfl)) (pgs_cons (pg_name (i := 3) sc__meets.nd rfl (Or.inl rfl)) pgs_nil))))
        (pss_one (ps_ret (pe_cmpR op_eq (pe_ix ix_tup (pv 1) (pe_ix ix_tup (pe_ix (ix_tab T.t_ki) (pe_glob (v := .ref T.D_ki) rfl T.g_ki rfl) (pv 2) (fun _ _ => rfl)) pe_int (fun _ _ => rfl)) (fun _ _ => rfl)) (pv 3) (nomark _))))), ?_⟩
    clear hr
    obtain ⟨t, rfl, hO⟩ := hO.opn (ds := [.str p.1, .int p.2]) hd
    obtain ⟨q, rfl, hO⟩ := hO.opn (ds := r) (hd2.mono (Ps.skip Ps.refl)) hr2.1
    obtain ⟨a, b, c, hk, hkk⟩ := ki_cases hp.2
    have hkt : (p.1, PyData.tuple [.int a, .int b, .int c]) ∈ kiT := List.mem_map_of_mem (f := fun t : Str × Int × Int × Int => (t.1, PyData.tuple [.int t.2.1, .int t.2.2.1, .int t.2.2.2])) hk
    have hc : 0 ≤ c ∧ c < 7 := by
      have h9 : ∀ t ∈ kiL, 0 ≤ t.2.2.2 ∧ t.2.2.2 < 7 := by decide
      exact h9 _ hk
    have atc : atI (r.map fv) c = some (fv (r[c.toNat]?.getD .none)) := at7 hr2.len hc
    walk_at "go"
    intro v hvv
    obtain ⟨tb, rfl, hO⟩ := hO.opn (ds := [.int a, .int b, .int c]) (fun M _ => hvv M)
    have hB : SqT K H tb [.int a, .int b, .int c] := hO.psq (List.Mem.head _)
    have sc := scal7 (z := p.2) hr2 hk
    walk_at "go"
    refine qbl (k _ _ (Ps.skip (Ps.skip (Ps.skip Ps.refl))) hO) ?_
    unfold meetB
    rw [hkk]
    rfl
def sp_meets (K : PySem.W.Frag) : Sp := fun vs H Q _ => ∃ (v u : V) (p : Str × Int) (r : List PyData) (R : List (Addr × Ob)) (P : List Pf), vs = [v, u] ∧ Own K H R P ∧ Dv1 K P v (pdP p) ∧ Dv1 K P u (.tuple r) ∧ okP p ∧ okR r ∧
  ∀ (H' : Hp) (P' : List Pf), Ps P P' → Own K H' R P' → Q (.bl (meetB p r)) H'
theorem ok_meets (T : Txt w K mg) : FnOk P w K mg base CX0 6 T.f_meets T.fd_meets ["point", "row"] (sp_meets K) := by
  have G_need_point := ok_need_point (P := P) (w := w) (base := base) T
  have G_need_row := ok_need_row (P := P) (w := w) (base := base) T
  have G__meets := ok__meets (P := P) (w := w) (base := base) T
  refine T.F_meets.ok sc_meets (fun vs H Q E h => ?_) (fun cdv A outer s H vs Q E hr h => ?_)
  · obtain ⟨v, u, p, r, R, P, rfl, hO, hd, hd2, hp, hr2, k⟩ := h; rfl
  · obtain ⟨v, u, p, r, R, P, rfl, hO, hd, hd2, hp, hr2, k⟩ := h
    refine ⟨_, (pss_cons (ps_expr (pe_call G_need_point (hr.mono (by decide)) rfl T.g_need_point T.F_need_point.kp T.b_need_point .nil pass0 (pa_cons (pv 0) pa_nil)))
        (pss_cons (ps_expr (pe_call G_need_row (hr.mono (by decide)) rfl T.g_need_row T.F_need_row.kp T.b_need_row .nil pass0 (pa_cons (pv 1) pa_nil)))
        (pss_one (ps_ret (pe_call G__meets (hr.mono (by decide)) rfl T.g__meets T.F__meets.kp T.b__meets .nil pass0 (pa_cons (pv 0) (pa_cons (pv 1) pa_nil))))))), ?_⟩
    clear G_need_point G_need_row G__meets
    clear hr
    refine ⟨_, rfl, v, p, R, P, rfl, hO, hd, hp, fun H1 P1 s1 hO => ?_⟩
    have hd3 := hd2.mono s1
    walk_at "go"
    intro H2 P2 s2 hO
    clear hd3
    have hd4 := hd.mono (s1.trans s2)
    have hd5 := hd2.mono (s1.trans s2)
    walk_at "go"
    intro H3 P3 s3 hO
    exact k _ _ ((s1.trans s2).trans s3) hO
/-- o tells the first row that meets a point, and the first point that it meets -/
def FirstR (ps : List (Str × Int)) (rs : List (List PyData)) : Option (Nat × Nat) → Prop
  | none => ∀ r ∈ rs, ∀ p ∈ ps, meetB p r = false
  | some (i, j) => ∃ r p, rs[i]? = some r ∧ ps[j]? = some p ∧ meetB p r = true ∧ (∀ (i' : Nat) r', i' < i → rs[i']? = some r' → ∀ p ∈ ps, meetB p r' = false) ∧ ∀ (j' : Nat) p', j' < j → ps[j']? = some p' → meetB p' r = false
theorem FirstR.uniq {ps : List (Str × Int)} {rs : List (List PyData)} {o o' : Option (Nat × Nat)} (h : FirstR ps rs o) (h' : FirstR ps rs o') : o = o' := by
  rcases o with _ | ⟨i, j⟩ <;> rcases o' with _ | ⟨i', j'⟩
  · rfl
  · obtain ⟨r, p, a, b, c, _⟩ := h'
    rw [h r (List.mem_of_getElem? a) p (List.mem_of_getElem? b)] at c
    cases c
  · obtain ⟨r, p, a, b, c, _⟩ := h
    rw [h' r (List.mem_of_getElem? a) p (List.mem_of_getElem? b)] at c
    cases c
  · obtain ⟨r, p, a, b, c, d, e⟩ := h
    obtain ⟨r', p', a', b', c', d', e'⟩ := h'
    have hi : i = i' := by
      rcases Nat.lt_trichotomy i i' with z | z | z
      · rw [d' i r z a p (List.mem_of_getElem? b)] at c; cases c
      · exact z
      · rw [d i' r' z a' p' (List.mem_of_getElem? b')] at c'; cases c'
    subst hi
    obtain rfl : r = r' := Option.some.inj (a.symm.trans a')
    rcases Nat.lt_trichotomy j j' with z | z | z
    · rw [e' j p z b] at c; cases c
    · rw [z]
    · rw [e j' p' z b'] at c'; cases c'
def dueD : Option (Nat × Nat) → PyData
  | none => .none
  | some (i, j) => .tuple [.int (i : Nat), .int (j : Nat)]
/-- a list or a tuple of data -/
def OSqD (K : PySem.W.Frag) (L : List (Addr × Ob)) (P : List Pf) (a : Addr) (ds : List PyData) : Prop := ∃ xs, OSq L P a xs ∧ Dv K P xs ds
theorem pi_stop {X : Cx} {t e : Expr} {ti : TI} (h : PI X t e ti) : PI X t e (fun σ H R => Stop (ti σ H R)) := ⟨fun pins s σ H R I q => h.run pins s σ H R I q.h⟩
def sp_first_met (K : PySem.W.Frag) : Sp := fun vs H Q _ => ∃ (a b : Addr) (xs ys : List V) (ps : List (Str × Int)) (rs : List (List PyData)) (R : List (Addr × Ob)) (P : List Pf), vs = [.ref a, .ref b] ∧ Own K H R P ∧ OSq R P a xs ∧ Dv K P xs (ps.map pdP) ∧ OSq R P b ys ∧ Dv K P ys (rs.map PyData.tuple) ∧
  (∀ p ∈ ps, okP p) ∧ (∀ r ∈ rs, okR r) ∧ ps.length ≤ 1000 ∧ rs.length ≤ 1000 ∧
  ∀ (o : Option (Nat × Nat)) (v : V) (H' : Hp) (P' : List Pf), FirstR ps rs o → Dv1 K P' v (dueD o) → Ps P P' → Own K H' R P' → Q v H'
theorem ok_first_met (T : Txt w K mg) : FnOk P w K mg base CX0 7 T.f_first_met T.fd_first_met ["points", "rows"] (sp_first_met K) := by
  have G_is_point := ok_is_point (P := P) (w := w) (base := base) T
  have G_is_list := ok_is_list (P := P) (w := w) (base := base) T
  have G_need_row_list := ok_need_row_list (P := P) (w := w) (base := base) T
  have G__meets := ok__meets (P := P) (w := w) (base := base) T
  refine T.F_first_met.ok sc_first_met (fun vs H Q E h => ?_) (fun cdv A outer s H vs Q E hr h => ?_)
  · obtain ⟨a, b, xs, ys, ps, rs, R, P, rfl, hO, ha, hda, hb, hdb, hps, hrs, hz1, hz2, k⟩ := h; rfl
  · obtain ⟨a, b, xs, ys, ps, rs, R, P, rfl, hO, ha, hda, hb, hdb, hps, hrs, hz1, hz2, k⟩ := h
    refine ⟨_, (pss_cons (ps_if (pt_not (pt_mid (PW.pt (pw_and (pt_val (pe_call G_is_list (hr.mono (by decide)) rfl T.g_is_list T.F_is_list.kp T.b_is_list .nil pass0 (pa_cons (pv 0) pa_nil))) (pw_and1 (pt_val (pe_callB (cr_all rfl) (by rfl) T.m_all (by decide +kernel) (pa_cons (pe_lc (own := [("point", 2)]) (g := gName 2) (tt := tYes) rfl sc_first_met.nd (PI.or (pi_list (pv 0)) (pi_tup (pv 0))) (blkOk_by (N := ["points", "rows", "point", "at", "row", "position"]) (sc := defScope s_first_met) (by decide +kernel)) (fun _ _ _ _ _ => pg_name (i := 2) sc_first_met.nd rfl (Or.inl rfl)) (fun _ _ _ _ _ => pts_nil) (fun _ _ _ _ _ => (pe_call G_is_point (hr.mono (by decide)) rfl T.g_is_point T.F_is_point.kp T.b_is_point .nil pass0 (pa_cons (pv 2) pa_nil)))) pa_nil))))))))
          (pss_one ps_never)
          pss_nil)
        (pss_cons (ps_expr (pe_call G_need_row_list (hr.mono (by decide)) rfl T.g_need_row_list T.F_need_row_list.kp T.b_need_row_list .nil pass0 (pa_cons (pv 1) pa_nil)))
        (pss_cons (ps_forS PassesOwn.never rfl (pi_stop (pi_enumP rfl T.m_enumerate (pa_cons (pv 1) pa_nil))) (pg_tup rfl (pgs_cons (pg_name (i := 3) sc_first_met.nd rfl (Or.inl rfl)) (pgs_cons (pg_name (i := 4) sc_first_met.nd rfl (Or.inl rfl)) pgs_nil)))
          (pss_one (ps_forS PassesOwn.never rfl (pi_stop (pi_enumP rfl T.m_enumerate (pa_cons (pv 0) pa_nil))) (pg_tup rfl (pgs_cons (pg_name (i := 5) sc_first_met.nd rfl (Or.inl rfl)) (pgs_cons (pg_name (i := 2) sc_first_met.nd rfl (Or.inl rfl)) pgs_nil)))
            (pss_one (ps_if (pt_val (pe_call G__meets (hr.mono (by decide)) rfl T.g__meets T.F__meets.kp T.b__meets .nil pass0 (pa_cons (pv 2) (pa_cons (pv 4) pa_nil))))
              (pss_one (ps_ret (pe_tup (pa_cons (pv 3) (pa_cons (pv 5) pa_nil)))))
              pss_nil)))))
        (pss_one (ps_ret pe_non))))), ?_⟩
    clear G_is_point G_is_list G_need_row_list G__meets
    clear hr
    have hl : xs.length = ps.length := by have := (hO.all hda).len; simpa using this
    have hlr : ys.length = rs.length := by have := (hO.all hdb).len; simpa using this
    have hnt : ∀ p : Str × Int, okP p → ∀ n d, some [PyData.str p.1, .int p.2] = some [.str n, d] → n ∈ (["at", "register", "place", "cause", "1"] : List Str) := by
      intro p hp n d h
      injection h with h
      injection h with h1 h2
      injection h1 with h1
      subst h1
      have := hp.2
      simp only [List.mem_cons, List.not_mem_nil, or_false] at this ⊢
      rcases this with h | h | h | h
      · exact .inl h
      · exact .inr (.inl h)
      · exact .inr (.inr (.inl h))
      · exact .inr (.inr (.inr (.inl h)))
    have hft : ∀ p : Str × Int, ∀ d ∈ [PyData.str p.1, .int p.2], flatD d = true := by
      intro p d hd
      simp only [List.mem_cons, List.not_mem_nil, or_false] at hd
      rcases hd with rfl | rfl <;> rfl
    refine Stop.mk ⟨fun b H' => Stop (b = true ∧ ∃ P3, Ps P P3 ∧ Own K H' R P3), ?_, fun b H' hM => ?_⟩
    · refine ⟨_, rfl, a, xs, R, P, rfl, hO, ha, fun H1 P1 s1 hO => ?_⟩
      walk_at "go"
      rcases ha with h | h
      · refine Or.inl ?_
        have sq1 : SqL K H1 a xs := SqL.of (hO.raw h)
        walk_at "go"
        intro D hD
        refine lc_rawW (walk_list (xs := xs)) ((ps.map fun _ => true).map V.bl) hO hD (by rw [List.length_map, List.length_map, hl]) (by omega) (fun H L' P' s t q => SqL.of (q.raw (s _ h))) (fun i v y H9 H' P' Qy hi9 hv hy sp hO ky => ?_) (fun H5 P5 sp5 hO => ?_)
        · obtain ⟨rfl, hv⟩ := hv
          have hir : i < ps.length := by omega
          have hr9 : ps[i]? = some ps[i] := List.getElem?_eq_getElem hir
          have hok := hps _ (List.getElem_mem hir)
          rw [List.getElem?_map, List.getElem?_map, hr9] at hy
          obtain rfl := Option.some.inj hy
          obtain ⟨t, rfl, hO⟩ := hO.opn (ds := [.str ps[i].1, .int ps[i].2]) ((hda.mono (s1.trans sp)).get hv (by rw [List.getElem?_map, hr9]; rfl))
          refine ⟨rfl, _, rfl, ?_⟩
          refine ⟨_, some [.str ps[i].1, .int ps[i].2], _, _, rfl, hO, ⟨t, rfl, List.mem_cons_self, hft _, by simp⟩, hnt _ hok, fun H7 P7 s7 hO => ?_⟩
          rw [hok.1]
          exact ky _ _ ((Ps.skip Ps.refl).trans s7) hO
        · walk_at "go"
          exact ⟨⟨by simp, P5, s1.trans sp5, hO.sub (Sb.skip (Sb.refl _)) Ps.refl⟩⟩
      · refine Or.inr ?_
        have sq1 : SqT K H1 a xs := SqT.of (hO.ptup (s1 _ h))
        walk_at "go"
        intro D hD
        refine lc_rawW (walk_tup (xs := xs)) ((ps.map fun _ => true).map V.bl) hO hD (by rw [List.length_map, List.length_map, hl]) (by omega) (fun H L' P' s t q => SqT.of (q.ptup (t _ (s1 _ h)))) (fun i v y H9 H' P' Qy hi9 hv hy sp hO ky => ?_) (fun H5 P5 sp5 hO => ?_)
        · obtain ⟨rfl, hv⟩ := hv
          have hir : i < ps.length := by omega
          have hr9 : ps[i]? = some ps[i] := List.getElem?_eq_getElem hir
          have hok := hps _ (List.getElem_mem hir)
          rw [List.getElem?_map, List.getElem?_map, hr9] at hy
          obtain rfl := Option.some.inj hy
          obtain ⟨t, rfl, hO⟩ := hO.opn (ds := [.str ps[i].1, .int ps[i].2]) ((hda.mono (s1.trans sp)).get hv (by rw [List.getElem?_map, hr9]; rfl))
          refine ⟨rfl, _, rfl, ?_⟩
          refine ⟨_, some [.str ps[i].1, .int ps[i].2], _, _, rfl, hO, ⟨t, rfl, List.mem_cons_self, hft _, by simp⟩, hnt _ hok, fun H7 P7 s7 hO => ?_⟩
          rw [hok.1]
          exact ky _ _ ((Ps.skip Ps.refl).trans s7) hO
        · walk_at "go"
          exact ⟨⟨by simp, P5, s1.trans sp5, hO.sub (Sb.skip (Sb.refl _)) Ps.refl⟩⟩
    obtain ⟨rfl, P1, s1, hO⟩ := hM.h
    clear hM
    have hbo := hb.mono s1
    have hdbo := hdb.mono s1
    walk_at "go"
    intro H2 P2 s2 hO
    have spo : Ps P P2 := s1.trans s2
    refine Stop.mk ⟨_, rfl, b, ys, rfl, ?_⟩
    clear hbo hdbo
    rcases hb with hq1 | hq1
    · refine Or.inl ⟨SqL.of (hO.raw hq1), ?_⟩
      walk_at "go"
      refine ⟨for_it (walk_enumS (xs := ys)) (fun i σ H' => Stop (∃ (t2 t3 t4 t5 : Option V) (P4 : List Pf), σ = [some (.ref a), some (.ref b), t2, t3, t4, t5] ∧ Ps P P4 ∧ Own K H' R P4 ∧ ∀ (i' : Nat) r', i' < i → rs[i']? = some r' → ∀ p ∈ ps, meetB p r' = false)) ⟨⟨none, none, none, none, _, rfl, spo, hO, fun i' r' h9 => absurd h9 (Nat.not_lt_zero _)⟩⟩ (fun i σ H' hi h => ?_) (fun i v σ H1 H' hi h hY => ?_) (fun σ H' h => ?_)⟩
      · obtain ⟨t2, t3, t4, t5, P4, rfl, sp, hO, hnoR⟩ := h.h
        exact SqL.of (hO.raw hq1)
      · clear hO
        obtain ⟨t2, t3, t4, t5, P4, rfl, sp, hO, hnoR⟩ := h.h
        clear h
        obtain ⟨T0, u, rv, rfl, hT, rfl, e1, e2⟩ := hY
        obtain rfl : V.int (0 + (i : Nat)) = u := Option.some.inj e1
        replace e2 : ys[i]? = some rv := e2
        obtain ⟨r, hr9⟩ : ∃ r, rs[i]? = some r := ⟨rs[i]'(by omega), List.getElem?_eq_getElem _⟩
        have hdr0 : Dv1 K P4 rv (.tuple r) := (hdb.mono sp).get e2 (by rw [List.getElem?_map, hr9]; rfl)
        have hokr := hrs r (List.mem_of_getElem? hr9)
        replace hO := hO.newT (vs := [.int (0 + (i : Nat)), rv]) hT rfl
        have hdr := hdr0.mono (P' := (Pf.tup T0 [.int (0 + (i : Nat)), rv]) :: P4) (Ps.skip Ps.refl)
        clear hdr0
        have hT9 := hO.ptup (List.Mem.head _)
        generalize hP5 : (Pf.tup T0 [V.int (0 + (i : Nat)), rv]) :: P4 = P9 at hO hdr
        have sp9 : Ps P4 P9 := hP5 ▸ Ps.skip Ps.refl
        clear hP5
        replace sp := sp.trans sp9
        clear sp9
        walk_at "go"
        refine Stop.mk ⟨_, rfl, a, xs, rfl, ?_⟩
        rcases ha with h2 | h2
        · refine Or.inl ⟨SqL.of (hO.raw h2), ?_⟩
          walk_at "go"
          refine ⟨for_it (walk_enumS (xs := xs)) (fun j σ H' => Stop (∃ (u1 u2 : Option V) (P5 : List Pf), σ = [some (.ref a), some (.ref b), u1, some (.int (0 + (i : Nat))), some rv, u2] ∧ Ps P P5 ∧ Ps P9 P5 ∧ Own K H' R P5 ∧ ∀ (j' : Nat) p', j' < j → ps[j']? = some p' → meetB p' r = false)) ⟨⟨t2, t5, _, rfl, sp, Ps.refl, hO, fun j' p' h9 => absurd h9 (Nat.not_lt_zero _)⟩⟩ (fun j σ H' hj h => ?_) (fun j v σ H1 H' hj h hY => ?_) (fun σ H' h => ?_)⟩
          · obtain ⟨u1, u2, P5, rfl, s5, s45, hO, hno⟩ := h.h
            exact SqL.of (hO.raw h2)
          · clear hO
            obtain ⟨u1, u2, P5, rfl, s5, s45, hO, hno⟩ := h.h
            clear h
            obtain ⟨T0, u, v', rfl, hT, rfl, e1, e2⟩ := hY
            obtain rfl : V.int (0 + (j : Nat)) = u := Option.some.inj e1
            replace e2 : xs[j]? = some v' := e2
            obtain ⟨pd, hp9⟩ : ∃ pd, ps[j]? = some pd := ⟨ps[j]'(by omega), List.getElem?_eq_getElem _⟩
            have hdp : Dv1 K P5 v' (pdP pd) := (hda.mono s5).get e2 (by rw [List.getElem?_map, hp9]; rfl)
            have hokp := hps pd (List.mem_of_getElem? hp9)
            replace hO := hO.newT (vs := [.int (0 + (j : Nat)), v']) hT rfl
            have hT8 := hO.ptup (List.Mem.head _)
            generalize hP6 : (Pf.tup T0 [V.int (0 + (j : Nat)), v']) :: P5 = P6 at hO
            have s56 : Ps P5 P6 := hP6 ▸ Ps.skip Ps.refl
            clear hP6
            replace hdp := hdp.mono s56
            have hdr9 := (hdr.mono s45).mono s56
            walk_at "go"
            intro H7 P7 s7 hO
            cases hmt : meetB pd r with
            | true =>
              walk_at "go"
              refine k (some (i, j)) _ _ _ ⟨r, pd, hr9, hp9, hmt, hnoR, hno⟩ ?_ ?_ hO
              · rw [Int.zero_add, Int.zero_add]
                walk_at "dv"
              · exact (s5.trans s56).trans (s7.trans (Ps.skip Ps.refl))
            | false =>
              walk_at "go"
              refine ⟨⟨_, _, P7, rfl, (s5.trans s56).trans s7, (s45.trans s56).trans s7, hO, fun j' p' h9 hp' => ?_⟩⟩
              rcases Nat.lt_or_ge j' j with z | z
              · exact hno j' p' z hp'
              · obtain rfl : j' = j := by omega
                obtain rfl := Option.some.inj (hp9.symm.trans hp')
                exact hmt
          · clear hO
            obtain ⟨u1, u2, P5, rfl, s5, s45, hO, hno⟩ := h.h
            clear h
            walk_at "go"
            refine ⟨⟨_, _, _, _, P5, rfl, s5, hO, fun i' r' h9 hr' => ?_⟩⟩
            rcases Nat.lt_or_ge i' i with z | z
            · exact hnoR i' r' z hr'
            · obtain rfl : i' = i := by omega
              obtain rfl := Option.some.inj (hr9.symm.trans hr')
              intro p hp
              obtain ⟨j', hj'⟩ := List.getElem?_of_mem hp
              have hj9 := (List.getElem?_eq_some_iff.mp hj').1
              exact hno j' p (by omega) hj'
        · refine Or.inr ⟨SqT.of (hO.ptup (sp _ h2)), ?_⟩
          walk_at "go"
          refine ⟨for_it (walk_enumT (xs := xs)) (fun j σ H' => Stop (∃ (u1 u2 : Option V) (P5 : List Pf), σ = [some (.ref a), some (.ref b), u1, some (.int (0 + (i : Nat))), some rv, u2] ∧ Ps P P5 ∧ Ps P9 P5 ∧ Own K H' R P5 ∧ ∀ (j' : Nat) p', j' < j → ps[j']? = some p' → meetB p' r = false)) ⟨⟨t2, t5, _, rfl, sp, Ps.refl, hO, fun j' p' h9 => absurd h9 (Nat.not_lt_zero _)⟩⟩ (fun j σ H' hj h => ?_) (fun j v σ H1 H' hj h hY => ?_) (fun σ H' h => ?_)⟩
          · obtain ⟨u1, u2, P5, rfl, s5, s45, hO, hno⟩ := h.h
            exact SqT.of (hO.ptup (s5 _ h2))
          · clear hO
            obtain ⟨u1, u2, P5, rfl, s5, s45, hO, hno⟩ := h.h
            clear h
            obtain ⟨T0, u, v', rfl, hT, rfl, e1, e2⟩ := hY
            obtain rfl : V.int (0 + (j : Nat)) = u := Option.some.inj e1
            replace e2 : xs[j]? = some v' := e2
            obtain ⟨pd, hp9⟩ : ∃ pd, ps[j]? = some pd := ⟨ps[j]'(by omega), List.getElem?_eq_getElem _⟩
            have hdp : Dv1 K P5 v' (pdP pd) := (hda.mono s5).get e2 (by rw [List.getElem?_map, hp9]; rfl)
            have hokp := hps pd (List.mem_of_getElem? hp9)
            replace hO := hO.newT (vs := [.int (0 + (j : Nat)), v']) hT rfl
            have hT8 := hO.ptup (List.Mem.head _)
            generalize hP6 : (Pf.tup T0 [V.int (0 + (j : Nat)), v']) :: P5 = P6 at hO
            have s56 : Ps P5 P6 := hP6 ▸ Ps.skip Ps.refl
            clear hP6
            replace hdp := hdp.mono s56
            have hdr9 := (hdr.mono s45).mono s56
            walk_at "go"
            intro H7 P7 s7 hO
            cases hmt : meetB pd r with
            | true =>
              walk_at "go"
              refine k (some (i, j)) _ _ _ ⟨r, pd, hr9, hp9, hmt, hnoR, hno⟩ ?_ ?_ hO
              · rw [Int.zero_add, Int.zero_add]
                walk_at "dv"
              · exact (s5.trans s56).trans (s7.trans (Ps.skip Ps.refl))
            | false =>
              walk_at "go"
              refine ⟨⟨_, _, P7, rfl, (s5.trans s56).trans s7, (s45.trans s56).trans s7, hO, fun j' p' h9 hp' => ?_⟩⟩
              rcases Nat.lt_or_ge j' j with z | z
              · exact hno j' p' z hp'
              · obtain rfl : j' = j := by omega
                obtain rfl := Option.some.inj (hp9.symm.trans hp')
                exact hmt
          · clear hO
            obtain ⟨u1, u2, P5, rfl, s5, s45, hO, hno⟩ := h.h
            clear h
            walk_at "go"
            refine ⟨⟨_, _, _, _, P5, rfl, s5, hO, fun i' r' h9 hr' => ?_⟩⟩
            rcases Nat.lt_or_ge i' i with z | z
            · exact hnoR i' r' z hr'
            · obtain rfl : i' = i := by omega
              obtain rfl := Option.some.inj (hr9.symm.trans hr')
              intro p hp
              obtain ⟨j', hj'⟩ := List.getElem?_of_mem hp
              have hj9 := (List.getElem?_eq_some_iff.mp hj').1
              exact hno j' p (by omega) hj'
      · clear hO
        obtain ⟨t2, t3, t4, t5, P4, rfl, sp, hO, hnoR⟩ := h.h
        clear h
        walk_at "go"
        refine k none _ _ P4 (fun r hr p hp => ?_) Dv1.non sp hO
        obtain ⟨i', hi'⟩ := List.getElem?_of_mem hr
        have hi9 := (List.getElem?_eq_some_iff.mp hi').1
        exact hnoR i' r (by omega) hi' p hp
    · refine Or.inr ⟨SqT.of (hO.ptup (spo _ hq1)), ?_⟩
      walk_at "go"
      refine ⟨for_it (walk_enumT (xs := ys)) (fun i σ H' => Stop (∃ (t2 t3 t4 t5 : Option V) (P4 : List Pf), σ = [some (.ref a), some (.ref b), t2, t3, t4, t5] ∧ Ps P P4 ∧ Own K H' R P4 ∧ ∀ (i' : Nat) r', i' < i → rs[i']? = some r' → ∀ p ∈ ps, meetB p r' = false)) ⟨⟨none, none, none, none, _, rfl, spo, hO, fun i' r' h9 => absurd h9 (Nat.not_lt_zero _)⟩⟩ (fun i σ H' hi h => ?_) (fun i v σ H1 H' hi h hY => ?_) (fun σ H' h => ?_)⟩
      · obtain ⟨t2, t3, t4, t5, P4, rfl, sp, hO, hnoR⟩ := h.h
        exact SqT.of (hO.ptup (sp _ hq1))
      · clear hO
        obtain ⟨t2, t3, t4, t5, P4, rfl, sp, hO, hnoR⟩ := h.h
        clear h
        obtain ⟨T0, u, rv, rfl, hT, rfl, e1, e2⟩ := hY
        obtain rfl : V.int (0 + (i : Nat)) = u := Option.some.inj e1
        replace e2 : ys[i]? = some rv := e2
        obtain ⟨r, hr9⟩ : ∃ r, rs[i]? = some r := ⟨rs[i]'(by omega), List.getElem?_eq_getElem _⟩
        have hdr0 : Dv1 K P4 rv (.tuple r) := (hdb.mono sp).get e2 (by rw [List.getElem?_map, hr9]; rfl)
        have hokr := hrs r (List.mem_of_getElem? hr9)
        replace hO := hO.newT (vs := [.int (0 + (i : Nat)), rv]) hT rfl
        have hdr := hdr0.mono (P' := (Pf.tup T0 [.int (0 + (i : Nat)), rv]) :: P4) (Ps.skip Ps.refl)
        clear hdr0
        have hT9 := hO.ptup (List.Mem.head _)
        generalize hP5 : (Pf.tup T0 [V.int (0 + (i : Nat)), rv]) :: P4 = P9 at hO hdr
        have sp9 : Ps P4 P9 := hP5 ▸ Ps.skip Ps.refl
        clear hP5
        replace sp := sp.trans sp9
        clear sp9
        walk_at "go"
        refine Stop.mk ⟨_, rfl, a, xs, rfl, ?_⟩
        rcases ha with h2 | h2
        · refine Or.inl ⟨SqL.of (hO.raw h2), ?_⟩
          walk_at "go"
          refine ⟨for_it (walk_enumS (xs := xs)) (fun j σ H' => Stop (∃ (u1 u2 : Option V) (P5 : List Pf), σ = [some (.ref a), some (.ref b), u1, some (.int (0 + (i : Nat))), some rv, u2] ∧ Ps P P5 ∧ Ps P9 P5 ∧ Own K H' R P5 ∧ ∀ (j' : Nat) p', j' < j → ps[j']? = some p' → meetB p' r = false)) ⟨⟨t2, t5, _, rfl, sp, Ps.refl, hO, fun j' p' h9 => absurd h9 (Nat.not_lt_zero _)⟩⟩ (fun j σ H' hj h => ?_) (fun j v σ H1 H' hj h hY => ?_) (fun σ H' h => ?_)⟩
          · obtain ⟨u1, u2, P5, rfl, s5, s45, hO, hno⟩ := h.h
            exact SqL.of (hO.raw h2)
          · clear hO
            obtain ⟨u1, u2, P5, rfl, s5, s45, hO, hno⟩ := h.h
            clear h
            obtain ⟨T0, u, v', rfl, hT, rfl, e1, e2⟩ := hY
            obtain rfl : V.int (0 + (j : Nat)) = u := Option.some.inj e1
            replace e2 : xs[j]? = some v' := e2
            obtain ⟨pd, hp9⟩ : ∃ pd, ps[j]? = some pd := ⟨ps[j]'(by omega), List.getElem?_eq_getElem _⟩
            have hdp : Dv1 K P5 v' (pdP pd) := (hda.mono s5).get e2 (by rw [List.getElem?_map, hp9]; rfl)
            have hokp := hps pd (List.mem_of_getElem? hp9)
            replace hO := hO.newT (vs := [.int (0 + (j : Nat)), v']) hT rfl
            have hT8 := hO.ptup (List.Mem.head _)
            generalize hP6 : (Pf.tup T0 [V.int (0 + (j : Nat)), v']) :: P5 = P6 at hO
            have s56 : Ps P5 P6 := hP6 ▸ Ps.skip Ps.refl
            clear hP6
            replace hdp := hdp.mono s56
            have hdr9 := (hdr.mono s45).mono s56
            walk_at "go"
            intro H7 P7 s7 hO
            cases hmt : meetB pd r with
            | true =>
              walk_at "go"
              refine k (some (i, j)) _ _ _ ⟨r, pd, hr9, hp9, hmt, hnoR, hno⟩ ?_ ?_ hO
              · rw [Int.zero_add, Int.zero_add]
                walk_at "dv"
              · exact (s5.trans s56).trans (s7.trans (Ps.skip Ps.refl))
            | false =>
              walk_at "go"
              refine ⟨⟨_, _, P7, rfl, (s5.trans s56).trans s7, (s45.trans s56).trans s7, hO, fun j' p' h9 hp' => ?_⟩⟩
              rcases Nat.lt_or_ge j' j with z | z
              · exact hno j' p' z hp'
              · obtain rfl : j' = j := by omega
                obtain rfl := Option.some.inj (hp9.symm.trans hp')
                exact hmt
          · clear hO
            obtain ⟨u1, u2, P5, rfl, s5, s45, hO, hno⟩ := h.h
            clear h
            walk_at "go"
            refine ⟨⟨_, _, _, _, P5, rfl, s5, hO, fun i' r' h9 hr' => ?_⟩⟩
            rcases Nat.lt_or_ge i' i with z | z
            · exact hnoR i' r' z hr'
            · obtain rfl : i' = i := by omega
              obtain rfl := Option.some.inj (hr9.symm.trans hr')
              intro p hp
              obtain ⟨j', hj'⟩ := List.getElem?_of_mem hp
              have hj9 := (List.getElem?_eq_some_iff.mp hj').1
              exact hno j' p (by omega) hj'
        · refine Or.inr ⟨SqT.of (hO.ptup (sp _ h2)), ?_⟩
          walk_at "go"
          refine ⟨for_it (walk_enumT (xs := xs)) (fun j σ H' => Stop (∃ (u1 u2 : Option V) (P5 : List Pf), σ = [some (.ref a), some (.ref b), u1, some (.int (0 + (i : Nat))), some rv, u2] ∧ Ps P P5 ∧ Ps P9 P5 ∧ Own K H' R P5 ∧ ∀ (j' : Nat) p', j' < j → ps[j']? = some p' → meetB p' r = false)) ⟨⟨t2, t5, _, rfl, sp, Ps.refl, hO, fun j' p' h9 => absurd h9 (Nat.not_lt_zero _)⟩⟩ (fun j σ H' hj h => ?_) (fun j v σ H1 H' hj h hY => ?_) (fun σ H' h => ?_)⟩
          · obtain ⟨u1, u2, P5, rfl, s5, s45, hO, hno⟩ := h.h
            exact SqT.of (hO.ptup (s5 _ h2))
          · clear hO
            obtain ⟨u1, u2, P5, rfl, s5, s45, hO, hno⟩ := h.h
            clear h
            obtain ⟨T0, u, v', rfl, hT, rfl, e1, e2⟩ := hY
            obtain rfl : V.int (0 + (j : Nat)) = u := Option.some.inj e1
            replace e2 : xs[j]? = some v' := e2
            obtain ⟨pd, hp9⟩ : ∃ pd, ps[j]? = some pd := ⟨ps[j]'(by omega), List.getElem?_eq_getElem _⟩
            have hdp : Dv1 K P5 v' (pdP pd) := (hda.mono s5).get e2 (by rw [List.getElem?_map, hp9]; rfl)
            have hokp := hps pd (List.mem_of_getElem? hp9)
            replace hO := hO.newT (vs := [.int (0 + (j : Nat)), v']) hT rfl
            have hT8 := hO.ptup (List.Mem.head _)
            generalize hP6 : (Pf.tup T0 [V.int (0 + (j : Nat)), v']) :: P5 = P6 at hO
            have s56 : Ps P5 P6 := hP6 ▸ Ps.skip Ps.refl
            clear hP6
            replace hdp := hdp.mono s56
            have hdr9 := (hdr.mono s45).mono s56
            walk_at "go"
            intro H7 P7 s7 hO
            cases hmt : meetB pd r with
            | true =>
              walk_at "go"
              refine k (some (i, j)) _ _ _ ⟨r, pd, hr9, hp9, hmt, hnoR, hno⟩ ?_ ?_ hO
              · rw [Int.zero_add, Int.zero_add]
                walk_at "dv"
              · exact (s5.trans s56).trans (s7.trans (Ps.skip Ps.refl))
            | false =>
              walk_at "go"
              refine ⟨⟨_, _, P7, rfl, (s5.trans s56).trans s7, (s45.trans s56).trans s7, hO, fun j' p' h9 hp' => ?_⟩⟩
              rcases Nat.lt_or_ge j' j with z | z
              · exact hno j' p' z hp'
              · obtain rfl : j' = j := by omega
                obtain rfl := Option.some.inj (hp9.symm.trans hp')
                exact hmt
          · clear hO
            obtain ⟨u1, u2, P5, rfl, s5, s45, hO, hno⟩ := h.h
            clear h
            walk_at "go"
            refine ⟨⟨_, _, _, _, P5, rfl, s5, hO, fun i' r' h9 hr' => ?_⟩⟩
            rcases Nat.lt_or_ge i' i with z | z
            · exact hnoR i' r' z hr'
            · obtain rfl : i' = i := by omega
              obtain rfl := Option.some.inj (hr9.symm.trans hr')
              intro p hp
              obtain ⟨j', hj'⟩ := List.getElem?_of_mem hp
              have hj9 := (List.getElem?_eq_some_iff.mp hj').1
              exact hno j' p (by omega) hj'
      · clear hO
        obtain ⟨t2, t3, t4, t5, P4, rfl, sp, hO, hnoR⟩ := h.h
        clear h
        walk_at "go"
        refine k none _ _ P4 (fun r hr p hp => ?_) Dv1.non sp hO
        obtain ⟨i', hi'⟩ := List.getElem?_of_mem hr
        have hi9 := (List.getElem?_eq_some_iff.mp hi').1
        exact hnoR i' r (by omega) hi' p hp
end
end K91

set_option Elab.async false
set_option linter.all false
set_option maxRecDepth 100000
set_option maxHeartbeats 8000000

namespace K91
open PySem PySem.Spec PyProof.Rows L2 Hx 
local macro_rules | `(tactic| walk_at "sm") => `(tactic| repeat' (first | assumption | apply Hx.Same.upd | exact L2.Same.refl _ | apply same_trans'))
local macro_rules | `(tactic| walk_at "hp") => `(tactic| repeat' (first | assumption | exact upd_same | apply old_upd | apply same_at))
local macro_rules | `(tactic| walk_at "rd") => `(tactic| repeat' (first | rfl | apply Exists.intro | apply And.intro | refine iteT ?_ | refine iteF ?_ | exact upd_same | exact SqL.of (by assumption) | exact SqL.of upd_same | exact SqT.of upd_same | exact SqT.of (by assumption) | ((with_reducible show (_ : Int) < _); omega) | ((with_reducible show (_ : Int) ≤ _); omega) | (show (_ : Prop); assumption) | exact Or.inl ⟨_, by assumption, rfl⟩ | exact Or.inl ⟨rfl, _, SqL.of (by assumption)⟩ | exact Or.inl ⟨rfl, _, SqL.of upd_same⟩ | apply old_upd | apply Hx.SqL.new | apply tyl_new | apply Pot.new | exact same_at (by assumption) (by assumption) | exact Or.inl (SqL.of (by assumption)) | exact Or.inl (by assumption) | exact Or.inl (SqL.of upd_same) | exact size_le (Nat.le_of_ble_eq_true rfl) | exact Nat.le_of_ble_eq_true rfl | exact True.intro | exact Or.inl rfl | exact Or.inr rfl | (show (_ : Prop); omega) | (show (_ : Prop); dsimp only; omega) | exact mulw64 (by omega) (by omega) | exact mulw64 (by (try dsimp only); omega) (by (try dsimp only); omega)))
local macro_rules | `(tactic| walk_at "mem") => `(tactic| ((repeat (first | exact List.Mem.head _ | apply List.Mem.tail | fail)); done))
local macro_rules | `(tactic| walk_at "setat") => `(tactic| ((repeat (first | (with_reducible exact At.head) | (with_reducible apply At.tail) | (with_reducible apply At.app) | fail)); done))
set_option hygiene false in
local macro_rules | `(tactic| walk_at "dv") => `(tactic| ((repeat' (first | exact Dv.nil | exact Dv.of (by walk_at "mem") | exact Dv.ints _ | exact Dv1.of (by walk_at "mem") | exact Dv1.int _ | exact Dv1.non | exact Dv1.bl _ | exact Dv1.str _ | (with_reducible apply Dv.cons) | refine Dv1.tup (by walk_at "mem") ?_ | refine Dv1.lst (by walk_at "mem") ?_ | (with_reducible apply Dv.app) | fail)); done))
local macro_rules | `(tactic| walk_at "ft") => `(tactic| (first | (with_reducible exact Ft.refl) | ((with_reducible apply Ft.toL); focus walk_at "dv") | ((with_reducible apply Ft.toS); focus assumption) | (with_reducible apply Ft.lst) | (with_reducible apply Ft.Le) | (with_reducible apply Ft.dK) | (with_reducible apply Ft.De) | (with_reducible apply Ft.ins) | (with_reducible apply Ft.toL) | (with_reducible apply Ft.toS) | (with_reducible apply Ft.toD) | fail))
local macro_rules | `(tactic| walk_at "sbL") => `(tactic| repeat' (first | (with_reducible exact Sb.refl _) | exact Sb.nil | (with_reducible apply Sb.cons) | (with_reducible apply Sb.app) | (with_reducible exact Pk.one) | (with_reducible exact Pk.here) | (with_reducible exact Pk.all) | (with_reducible apply Pk.skip1) | (with_reducible apply Pk.skipB) | (with_reducible apply Sb.skip) | (with_reducible apply Sb.skipB) | ((with_reducible show Ft _ _ _ _); walk_at "ft") | ((with_reducible show (_ : List _) = _); (first | rfl | (simp [List.map_set, List.map_append]; done) | fail)) | fail))
local macro_rules | `(tactic| walk_at "sb") => `(tactic| ((walk_at "sbL"); done))
local macro_rules | `(tactic| walk_at "ps") => `(tactic| ((repeat' (first | (with_reducible exact Ps.refl) | exact Ps.nil | (with_reducible apply Ps.cons) | exact List.Mem.head _ | apply List.Mem.tail | (with_reducible apply Ps.skip) | fail)); done))
set_option hygiene false in
local macro_rules | `(tactic| walk_at "at") => `(tactic| first | assumption | exact Own.raw hO (by walk_at "mem") | exact Own.ptup hO (by walk_at "mem") | exact Own.plst hO (by walk_at "mem") | fail)
set_option hygiene false in
local macro_rules | `(tactic| walk_at "st") => `(tactic| (rw [upd_mkO hO]; generalize e : updX _ _ _ = H1; (first | ((apply Own.cset hO e); (focus walk_at "setat"); (try clear hO e); intro hO) | ((apply Own.cnewT hO e); (focus assumption); (try clear hO e); intro hO) | ((apply Own.cnew hO e); (focus assumption); (try clear hO e); intro hO) | fail)))
set_option hygiene false in
local macro_rules | `(tactic| walk_at "mk") => `(tactic| (intro p1 p2 f1 f2 f3; rw [upd_mkO hO]; generalize e : upd (updX _ _ _) _ _ = H1; apply Own.cmake hO f1 f2 f3 e; (try clear hO e); intro hO))
set_option hygiene false in
local macro_rules | `(tactic| walk_at "own") => `(tactic| (first | ((apply Own.sub hO); (focus walk_at "sb"); (focus walk_at "ps")) | ((apply Own.sub hF); (focus walk_at "sb"); (focus walk_at "ps")) | fail))
set_option hygiene false in
local macro_rules | `(tactic| walk_at "fin") => `(tactic| (refine Own.sub hO ?_ (by walk_at "ps"); walk_at "sbL"))
set_option hygiene false in
local macro_rules | `(tactic| walk_at "g1") => `(tactic| (first
 | ((with_reducible show (_ : Option HO) = _); walk_at "at")
 | ((with_reducible show (_ : Int) < _); omega) | ((with_reducible show (_ : Int) ≤ _); omega)
 | ((with_reducible show (_ : Nat) < _); (first | assumption | exact Nat.le_of_ble_eq_true rfl | exact size_lt (Nat.le_of_ble_eq_true rfl) | omega | (simp; done) | (simp; omega) | fail))
 | ((with_reducible show (_ : Nat) ≤ _); (first | assumption | exact Nat.le_of_ble_eq_true rfl | exact size_le (Nat.le_of_ble_eq_true rfl) | omega | (simp; done) | (simp; omega) | fail))
 | ((with_reducible show (_ : Pf) ∈ _); (first | assumption | (focus walk_at "mem") | ((repeat (with_reducible apply List.mem_cons_of_mem)); assumption) | fail))
 | ((with_reducible show Own _ _ _ _); (first | walk_at "own" | (walk_at "st"; walk_at "own") | fail))
 | ((with_reducible show SqL _ _ _ _); (first | assumption | exact SqL.of (by walk_at "at") | fail))
 | ((with_reducible show SqT _ _ _ _); (first | assumption | exact hO.psq (by walk_at "mem") | exact hO.psq (by assumption) | exact SqT.of (by walk_at "at") | fail))
   | ((with_reducible show V.ref _ = V.ref _); (first | rfl | fail))
 | ((with_reducible show DGet _ _ _ _); (first | exact DGet.ki (by walk_at "at") (by assumption) | exact DGet.kiF (by walk_at "at") (by assumption) | fail))
 | ((with_reducible show DPut _ _ _ _ _); exact DPut.ki (by walk_at "at") (by assumption))
 | ((with_reducible show Rd _ _ _); (first | exact Or.inl (by walk_at "at") | exact Or.inr ⟨_, by walk_at "at"⟩ | fail))
 | ((with_reducible show (∃ _ : List (Key × V), _) ∨ _); refine Or.inl ⟨_, by walk_at "at", ?_⟩)
 | ((with_reducible show Dv _ _ _ _); focus walk_at "dv") | ((with_reducible show Dv1 _ _ _ _); focus walk_at "dv")
 | ((with_reducible show IsD _ _); exact Or.inl ⟨_, Or.inl (by walk_at "at")⟩)
 | ((with_reducible show V.int _ = kV _); exact kV_int)
 | ((with_reducible show Option.isSome _ = true); (first | exact isSome_ofV (by assumption) | assumption | fail))
 | ((with_reducible show SqL _ _ _ _ ∨ SqT _ _ _ _); (first | exact Or.inl (by assumption) | exact Or.inr (by assumption) | exact Or.inl (SqL.of (by walk_at "at")) | exact Or.inr (SqT.of (by walk_at "at")) | fail))
 | ((with_reducible show Dp _ _ _ _); (first | assumption | exact hO.dpL (by walk_at "mem") | exact .lst (SqL.of (by walk_at "at")) (hO.all (by walk_at "dv")) | exact hO.one (by walk_at "dv") | fail))
 | ((with_reducible show TruV _ _ _ _); (first | exact Or.inl ⟨_, SqL.of (by walk_at "at"), rfl⟩ | exact Or.inr (Or.inr ⟨_, by walk_at "at", rfl⟩) | exact Or.inr (Or.inl ⟨_, SqT.of (by walk_at "at"), rfl⟩) | fail))
 | ((with_reducible show RgOk _ _); exact RgOk.of_le (by omega) (by omega) (by omega) (by omega))
 | rfl | (with_reducible assumption) | apply And.intro | apply Exists.intro | refine iteT ?_ | refine iteF ?_
 | (walk_at "st"; (try walk_at "fl"))
 | ((with_reducible show ∀ _ : Addr, _ = none → _); (fail_if_success (with_reducible show ∀ _ : Addr, _ = none → ∃ _ : Nat → Nat → Hp → Prop, _)); intro p fp; walk_at "st")
 | (refine Or.inl ⟨SqL.of (by walk_at "at"), ?_⟩) | (refine Or.inr ⟨SqT.of (by walk_at "at"), ?_⟩) | exact Or.inl ⟨_, by walk_at "at", rfl⟩ | exact Or.inl ⟨rfl, _, SqL.of (by walk_at "at")⟩ | exact tyl_of (by walk_at "at") | exact Or.inl (SqL.of (by walk_at "at")) | exact Or.inr (SqT.of (by walk_at "at")) | exact Or.inl (by walk_at "at") | exact size_le (Nat.le_of_ble_eq_true rfl) | exact Nat.le_of_ble_eq_true rfl | exact True.intro | exact Or.inl rfl | exact Or.inr rfl | (show (_ : Prop); assumption) | (show (_ : Prop); omega) | (show (_ : Prop); dsimp only; omega) | exact mulw64 (by omega) (by omega) | exact mulw64 (by (try dsimp only); omega) (by (try dsimp only); omega) | fail))
local macro_rules | `(tactic| walk_at "go") => `(tactic| repeat walk_at "g1")

section
variable {P : Program} {w : World} {K : PySem.W.Frag} {mg : Str → Option Value} {base : Heap}
def sp_Lpot (K : PySem.W.Frag) : Sp := fun vs H Q _ => ∃ (a : Addr) (ns : List Int), vs = [.ref a, .int 0] ∧ SqL K H a (ns.map V.int) ∧ ns.length ≤ 63 ∧ ∀ p (H' : Hp), Own K H' (pt p ++ []) [] → Q (.ref p) H'
theorem ok_Lpot (T : Txt w K mg) : FnOk P w K mg base CX0 1 T.f_Lpot T.fd_Lpot ["_law_script", "_law_k"] (sp_Lpot K) := by
  refine T.F_Lpot.ok sc_Lpot (fun vs H Q E h => ?_) (fun cdv A outer s H vs Q E hr h => ?_)
  · obtain ⟨a, ns, rfl, hS, hl, k⟩ := h; rfl
  · obtain ⟨a, ns, rfl, hS, hl, k⟩ := h
    refine ⟨_, (pss_cons (ps_set (i := 2) sc_Lpot.nd rfl (Or.inl rfl) (pe_ifExp (pt_cmpR op_lt (pv 1) (pe_callB call_len_list (by rfl) T.m_len (by decide +kernel) (pa_cons (pv 0) pa_nil)) (nomark _)) (pe_callB call_abs (by rfl) T.m_abs (by decide +kernel) (pa_cons (pe_ix ix_list (pv 0) (pv 1) (fun _ _ => rfl)) pa_nil)) (pe_op op_add (pe_op op_mulW pe_int (pv 1)) pe_int)))
        (pss_one (ps_ret (pe_lst (pa_cons (pe_callB (call_max2 rfl) (by rfl) T.m_max (by decide +kernel) (pa_cons pe_int (pa_cons (pe_op op_sub (pv 2) (pe_op op_pow pe_int pe_int)) pa_nil))) (pa_cons (pe_op op_add (pe_op op_mod (pe_callTy call_int1i (by rfl) T.m_int (by decide +kernel) (pa_cons (pe_op op_add (pe_op op_add (pe_op op_mulW (pe_op op_mod (pe_callTy call_int1i (by rfl) T.m_int (by decide +kernel) (pa_cons (pv 2) pa_nil)) pe_int) pe_int) (pe_op op_mulW pe_int (pv 1))) pe_int) pa_nil)) pe_int) pe_int) pa_nil)))))), ?_⟩
    clear hr
    simp only [pt, List.cons_append, List.nil_append] at k
    have hO : Own K H [] [] := Own.start
    walk_at "go"
    refine iteD (fun h => ?_) (fun h => ?_)
    · obtain ⟨v, hv, hm⟩ := pick_at (xs := ns.map V.int) (d := 0) (by omega) (by simpa using h)
      obtain ⟨z, _, rfl⟩ := List.mem_map.mp hm
      walk_at "go"
      apply k
      walk_at "fin"
      exact ⟨_, _, rfl, by split <;> omega, by omega, by omega⟩
    · walk_at "go"
      apply k
      walk_at "fin"
      exact ⟨_, _, rfl, by split <;> omega, by omega, by omega⟩

theorem ok_Ldraw (T : Txt w K mg) : FnOk P w K mg base CX0 1 T.f_Ldraw T.fd_Ldraw ["_law_pot_here", "_law_many"] (spDrw K) := by
  refine T.F_Ldraw.ok sc_Ldraw (fun vs H Q E h => ?_) (fun cdv A outer s H vs Q E hr h => ?_)
  · obtain ⟨a, n, R, P, rfl, hO, hn, hn2, k⟩ := h; rfl
  · obtain ⟨a, n, R, P, rfl, hO, hn, hn2, k⟩ := h
    refine ⟨_, (pss_cons (ps_if (pt_cmpR op_gt (pe_ix ix_list (pv 0) pe_int (fun _ _ => rfl)) pe_int (nomark _))
          (pss_cons (ps_asg (pe_callB call_divmod (by rfl) T.m_divmod (by decide +kernel) (pa_cons (pe_ix ix_list (pv 0) pe_int (fun _ _ => rfl)) (pa_cons (pv 1) pa_nil))) (pg_tup rfl (pgs_cons (pg_sub (pv 0) pe_int set_list) (pgs_cons (pg_name (i := 2) sc_Ldraw.nd rfl (Or.inl rfl)) pgs_nil))))
          (pss_one (ps_ret (pv 2))))
          pss_nil)
        (pss_cons (ps_asg (pe_op op_mod (pe_callTy call_int1i (by rfl) T.m_int (by decide +kernel) (pa_cons (pe_op op_add (pe_op op_mulW (pe_ix ix_list (pv 0) pe_int (fun _ _ => rfl)) pe_int) pe_int) pa_nil)) pe_int) (pg_sub (pv 0) pe_int set_list))
        (pss_one (ps_ret (pe_op op_mod (pe_callTy call_int1i (by rfl) T.m_int (by decide +kernel) (pa_cons (pe_op op_fdiv (pe_op op_mod (pe_callTy call_int1i (by rfl) T.m_int (by decide +kernel) (pa_cons (pe_op op_mulW (pe_ix ix_list (pv 0) pe_int (fun _ _ => rfl)) (pe_ix ix_list (pv 0) pe_int (fun _ _ => rfl))) pa_nil)) pe_int) pe_int) pa_nil)) (pv 1)))))), ?_⟩
    clear hr
    simp only [pt, List.cons_append, List.nil_append] at hO k
    obtain ⟨o, ⟨x, y, rfl, hx, hy, hy2⟩, o1⟩ := hO.openS (a := a) (φ := PotO) (by walk_at "mem")
    replace hO := o1 _ (by walk_at "setat")
    clear o1
    walk_at "go"
    refine iteD (fun h => ?_) (fun h => ?_)
    · walk_at "go"
      refine k (x % n) _ (Int.emod_nonneg _ (by omega)) (Int.emod_lt_of_pos _ hn) ?_
      walk_at "fin"
      exact ⟨x / n, y, rfl, Int.ediv_nonneg hx (by omega), hy, hy2⟩
    · walk_at "go"
      refine k _ _ (Int.emod_nonneg _ (by omega)) (Int.emod_lt_of_pos _ hn) ?_
      walk_at "fin"
      exact ⟨x, _, rfl, hx, by omega, by omega⟩
def sp_Lpick (K : PySem.W.Frag) : Sp := fun vs H Q _ => ∃ (a l : Addr) (xs : List V) (R : List (Addr × Ob)) (P : List Pf), vs = [.ref a, .ref l] ∧ Own K H (pt a ++ ((l, .raw (.lst xs)) :: R)) P ∧ 0 < xs.length ∧ xs.length ≤ 1000 ∧
  ∀ (i : Nat) (v : V) (H' : Hp), xs[i]? = some v → Own K H' (pt a ++ ((l, .raw (.lst xs)) :: R)) P → Q v H'
theorem ok_Lpick (T : Txt w K mg) : FnOk P w K mg base CX0 2 T.f_Lpick T.fd_Lpick ["_law_pot_here", "_law_some"] (sp_Lpick K) := by
  have G_Ldraw := ok_Ldraw (P := P) (w := w) (base := base) T
  refine T.F_Lpick.ok sc_Lpick (fun vs H Q E h => ?_) (fun cdv A outer s H vs Q E hr h => ?_)
  · obtain ⟨a, l, xs, R, P, rfl, hO, h0, h1, k⟩ := h; rfl
  · obtain ⟨a, l, xs, R, P, rfl, hO, h0, h1, k⟩ := h
    refine ⟨_, (pss_one (ps_ret (pe_ix ix_list (pv 1) (pe_call G_Ldraw (hr.mono (by decide)) rfl T.g_Ldraw T.F_Ldraw.kp T.b_Ldraw .nil pass0 (pa_cons (pv 0) (pa_cons (pe_callB call_len_list (by rfl) T.m_len (by decide +kernel) (pa_cons (pv 1) pa_nil)) pa_nil))) (fun _ _ => rfl)))), ?_⟩
    clear G_Ldraw
    clear hr
    simp only [pt, List.cons_append, List.nil_append] at hO k
    walk_at "go"
    intro d H1 d0 d1 hO
    obtain ⟨d, rfl⟩ := Int.eq_ofNat_of_zero_le d0
    have dl : d < xs.length := by omega
    have ad : atI xs (d : Int) = some xs[d] := atI_nat (List.getElem?_eq_getElem dl)
    simp only [pt, List.cons_append, List.nil_append] at hO
    walk_at "go"
    exact k d _ _ (List.getElem?_eq_getElem dl) hO
end
end K91

set_option Elab.async false
set_option linter.all false
set_option maxRecDepth 100000
set_option maxHeartbeats 8000000

namespace K91
open PySem PySem.Spec PyProof.Rows L2 Hx 
local macro_rules | `(tactic| walk_at "sm") => `(tactic| repeat' (first | assumption | apply Hx.Same.upd | exact L2.Same.refl _ | apply same_trans'))
local macro_rules | `(tactic| walk_at "hp") => `(tactic| repeat' (first | assumption | exact upd_same | apply old_upd | apply same_at))
local macro_rules | `(tactic| walk_at "rd") => `(tactic| repeat' (first | rfl | apply Exists.intro | apply And.intro | refine iteT ?_ | refine iteF ?_ | exact upd_same | exact SqL.of (by assumption) | exact SqL.of upd_same | exact SqT.of upd_same | exact SqT.of (by assumption) | ((with_reducible show (_ : Int) < _); omega) | ((with_reducible show (_ : Int) ≤ _); omega) | (show (_ : Prop); assumption) | exact Or.inl ⟨_, by assumption, rfl⟩ | exact Or.inl ⟨rfl, _, SqL.of (by assumption)⟩ | exact Or.inl ⟨rfl, _, SqL.of upd_same⟩ | apply old_upd | apply Hx.SqL.new | apply tyl_new | apply Pot.new | exact same_at (by assumption) (by assumption) | exact Or.inl (SqL.of (by assumption)) | exact Or.inl (by assumption) | exact Or.inl (SqL.of upd_same) | exact size_le (Nat.le_of_ble_eq_true rfl) | exact Nat.le_of_ble_eq_true rfl | exact True.intro | exact Or.inl rfl | exact Or.inr rfl | (show (_ : Prop); omega) | (show (_ : Prop); dsimp only; omega) | exact mulw64 (by omega) (by omega) | exact mulw64 (by (try dsimp only); omega) (by (try dsimp only); omega)))
local macro_rules | `(tactic| walk_at "mem") => `(tactic| ((repeat (first | exact List.Mem.head _ | apply List.Mem.tail | fail)); done))
local macro_rules | `(tactic| walk_at "setat") => `(tactic| ((repeat (first | (with_reducible exact At.head) | (with_reducible apply At.tail) | (with_reducible apply At.app) | fail)); done))
set_option hygiene false in
local macro_rules | `(tactic| walk_at "dv") => `(tactic| ((repeat' (first | exact Dv.nil | exact Dv.of (by walk_at "mem") | exact Dv.ints _ | exact Dv1.of (by walk_at "mem") | exact Dv1.int _ | exact Dv1.non | exact Dv1.bl _ | exact Dv1.str _ | (with_reducible apply Dv.cons) | refine Dv1.tup (by walk_at "mem") ?_ | refine Dv1.lst (by walk_at "mem") ?_ | (with_reducible apply Dv.app) | fail)); done))
local macro_rules | `(tactic| walk_at "ft") => `(tactic| (first | (with_reducible exact Ft.refl) | ((with_reducible apply Ft.toL); focus walk_at "dv") | ((with_reducible apply Ft.toS); focus assumption) | (with_reducible apply Ft.lst) | (with_reducible apply Ft.Le) | (with_reducible apply Ft.dK) | (with_reducible apply Ft.De) | (with_reducible apply Ft.ins) | (with_reducible apply Ft.toL) | (with_reducible apply Ft.toS) | (with_reducible apply Ft.toD) | fail))
local macro_rules | `(tactic| walk_at "sbL") => `(tactic| repeat' (first | (with_reducible exact Sb.refl _) | exact Sb.nil | (with_reducible apply Sb.cons) | (with_reducible apply Sb.app) | (with_reducible exact Pk.one) | (with_reducible exact Pk.here) | (with_reducible exact Pk.all) | (with_reducible apply Pk.skip1) | (with_reducible apply Pk.skipB) | (with_reducible apply Sb.skip) | (with_reducible apply Sb.skipB) | ((with_reducible show Ft _ _ _ _); walk_at "ft") | ((with_reducible show (_ : List _) = _); (first | rfl | (simp [List.map_set, List.map_append]; done) | fail)) | fail))
local macro_rules | `(tactic| walk_at "sb") => `(tactic| ((walk_at "sbL"); done))
local macro_rules | `(tactic| walk_at "ps") => `(tactic| ((repeat' (first | (with_reducible exact Ps.refl) | exact Ps.nil | (with_reducible apply Ps.cons) | exact List.Mem.head _ | apply List.Mem.tail | (with_reducible apply Ps.skip) | fail)); done))
set_option hygiene false in
local macro_rules | `(tactic| walk_at "at") => `(tactic| first | assumption | exact Own.raw hO (by walk_at "mem") | exact Own.ptup hO (by walk_at "mem") | exact Own.plst hO (by walk_at "mem") | fail)
set_option hygiene false in
local macro_rules | `(tactic| walk_at "st") => `(tactic| (rw [upd_mkO hO]; generalize e : updX _ _ _ = H1; (first | ((apply Own.cset hO e); (focus walk_at "setat"); (try clear hO e); intro hO) | ((apply Own.cnewT hO e); (focus assumption); (try clear hO e); intro hO) | ((apply Own.cnew hO e); (focus assumption); (try clear hO e); intro hO) | fail)))
set_option hygiene false in
local macro_rules | `(tactic| walk_at "mk") => `(tactic| (intro p1 p2 f1 f2 f3; rw [upd_mkO hO]; generalize e : upd (updX _ _ _) _ _ = H1; apply Own.cmake hO f1 f2 f3 e; (try clear hO e); intro hO))
set_option hygiene false in
local macro_rules | `(tactic| walk_at "own") => `(tactic| (first | ((apply Own.sub hO); (focus walk_at "sb"); (focus walk_at "ps")) | ((apply Own.sub hF); (focus walk_at "sb"); (focus walk_at "ps")) | fail))
set_option hygiene false in
local macro_rules | `(tactic| walk_at "fin") => `(tactic| (refine Own.sub hO ?_ (by walk_at "ps"); walk_at "sbL"))
set_option hygiene false in
local macro_rules | `(tactic| walk_at "g1") => `(tactic| (first
 | ((with_reducible show (_ : Option HO) = _); walk_at "at")
 | ((with_reducible show (_ : Int) < _); omega) | ((with_reducible show (_ : Int) ≤ _); omega)
 | ((with_reducible show (_ : Nat) < _); (first | assumption | exact Nat.le_of_ble_eq_true rfl | exact size_lt (Nat.le_of_ble_eq_true rfl) | omega | (simp; done) | (simp; omega) | fail))
 | ((with_reducible show (_ : Nat) ≤ _); (first | assumption | exact Nat.le_of_ble_eq_true rfl | exact size_le (Nat.le_of_ble_eq_true rfl) | omega | (simp; done) | (simp; omega) | fail))
 | ((with_reducible show (_ : Pf) ∈ _); (first | assumption | (focus walk_at "mem") | ((repeat (with_reducible apply List.mem_cons_of_mem)); assumption) | fail))
 | ((with_reducible show Own _ _ _ _); (first | walk_at "own" | (walk_at "st"; walk_at "own") | fail))
 | ((with_reducible show SqL _ _ _ _); (first | assumption | exact SqL.of (by walk_at "at") | fail))
 | ((with_reducible show SqT _ _ _ _); (first | assumption | exact hO.psq (by walk_at "mem") | exact hO.psq (by assumption) | exact SqT.of (by walk_at "at") | fail))
   | ((with_reducible show V.ref _ = V.ref _); (first | rfl | fail))
 | ((with_reducible show DGet _ _ _ _); (first | exact DGet.ki (by walk_at "at") (by assumption) | exact DGet.kiF (by walk_at "at") (by assumption) | fail))
 | ((with_reducible show DPut _ _ _ _ _); exact DPut.ki (by walk_at "at") (by assumption))
 | ((with_reducible show Rd _ _ _); (first | exact Or.inl (by walk_at "at") | exact Or.inr ⟨_, by walk_at "at"⟩ | fail))
 | ((with_reducible show (∃ _ : List (Key × V), _) ∨ _); refine Or.inl ⟨_, by walk_at "at", ?_⟩)
 | ((with_reducible show Dv _ _ _ _); focus walk_at "dv") | ((with_reducible show Dv1 _ _ _ _); focus walk_at "dv")
 | ((with_reducible show IsD _ _); exact Or.inl ⟨_, Or.inl (by walk_at "at")⟩)
 | ((with_reducible show V.int _ = kV _); exact kV_int)
 | ((with_reducible show Option.isSome _ = true); (first | exact isSome_ofV (by assumption) | assumption | fail))
 | ((with_reducible show SqL _ _ _ _ ∨ SqT _ _ _ _); (first | exact Or.inl (by assumption) | exact Or.inr (by assumption) | exact Or.inl (SqL.of (by walk_at "at")) | exact Or.inr (SqT.of (by walk_at "at")) | fail))
 | ((with_reducible show Dp _ _ _ _); (first | assumption | exact hO.dpL (by walk_at "mem") | exact .lst (SqL.of (by walk_at "at")) (hO.all (by walk_at "dv")) | exact hO.one (by walk_at "dv") | fail))
 | ((with_reducible show TruV _ _ _ _); (first | exact Or.inl ⟨_, SqL.of (by walk_at "at"), rfl⟩ | exact Or.inr (Or.inr ⟨_, by walk_at "at", rfl⟩) | exact Or.inr (Or.inl ⟨_, SqT.of (by walk_at "at"), rfl⟩) | fail))
 | ((with_reducible show RgOk _ _); exact RgOk.of_le (by omega) (by omega) (by omega) (by omega))
 | rfl | (with_reducible assumption) | apply And.intro | apply Exists.intro | refine iteT ?_ | refine iteF ?_
 | (walk_at "st"; (try walk_at "fl"))
 | ((with_reducible show ∀ _ : Addr, _ = none → _); (fail_if_success (with_reducible show ∀ _ : Addr, _ = none → ∃ _ : Nat → Nat → Hp → Prop, _)); intro p fp; walk_at "st")
 | (refine Or.inl ⟨SqL.of (by walk_at "at"), ?_⟩) | (refine Or.inr ⟨SqT.of (by walk_at "at"), ?_⟩) | exact Or.inl ⟨_, by walk_at "at", rfl⟩ | exact Or.inl ⟨rfl, _, SqL.of (by walk_at "at")⟩ | exact tyl_of (by walk_at "at") | exact Or.inl (SqL.of (by walk_at "at")) | exact Or.inr (SqT.of (by walk_at "at")) | exact Or.inl (by walk_at "at") | exact size_le (Nat.le_of_ble_eq_true rfl) | exact Nat.le_of_ble_eq_true rfl | exact True.intro | exact Or.inl rfl | exact Or.inr rfl | (show (_ : Prop); assumption) | (show (_ : Prop); omega) | (show (_ : Prop); dsimp only; omega) | exact mulw64 (by omega) (by omega) | exact mulw64 (by (try dsimp only); omega) (by (try dsimp only); omega) | fail))
local macro_rules | `(tactic| walk_at "go") => `(tactic| repeat walk_at "g1")

section
variable {P : Program} {w : World} {K : PySem.W.Frag} {mg : Str → Option Value} {base : Heap}
def sp_Liscount : Sp := fun vs H Q _ => ∃ (d : PyData) (m : Int), vs = [fv d, .int m] ∧ flatD d = true ∧ Q (.bl (btwB d 0 m)) H
theorem ok_Lis_count (T : Txt w K mg) : FnOk P w K mg base CX0 1 T.f_Lis_count T.fd_Lis_count ["_law_value", "_law_most"] (sp_Liscount) := by
  refine T.F_Lis_count.ok sc_Lis_count (fun vs H Q E h => ?_) (fun cdv A outer s H vs Q E hr h => ?_)
  · obtain ⟨d, m, rfl, hd, k⟩ := h; rfl
  · obtain ⟨d, m, rfl, hd, k⟩ := h
    refine ⟨_, (pss_one (ps_ret (pe_and (pe_callB call_isi (by rfl) T.m_isinstance (by decide +kernel) (pa_cons (pv 0) (pa_cons (pe_bltn (v := .ty "int") (u := .type "int") (by rfl) T.m_int (by decide +kernel) rfl) pa_nil))) (pe_and (pe_not (pe_callB call_isi (by rfl) T.m_isinstance (by decide +kernel) (pa_cons (pv 0) (pa_cons (pe_bltn (v := .ty "bool") (u := .type "bool") (by rfl) T.m_bool (by decide +kernel) rfl) pa_nil)))) (pe_one (pe_chain op_le op_le pe_int (pv 0) (pv 1))))))), ?_⟩
    clear hr
    have cv1 : ClsV (.ty "int") (.type "int") := .ty _
    have cv2 : ClsV (.ty "bool") (.type "bool") := .ty _
    cases d with
    | int i =>
      have ty : TyX K H (fv (.int i)) (.type "int") := .base (.int _)
      have k1 : PySem.W.kitOne K (.type "int") (.type "int") = some true := kit_ty (by decide +kernel)
      have k2 : PySem.W.kitOne K (.type "int") (.type "bool") = some false := kit_ty (by decide +kernel)
      walk_at "rd"
      refine iteD (fun h1 => ?_) (fun h1 => ?_)
      · walk_at "rd"
        exact qbl k (by simp [btwB, h1])
      · exact qbl k (by simp [btwB, h1])
    | bool b =>
      have ty : TyX K H (fv (.bool b)) (.type "bool") := .base (.bl _)
      have k1 : PySem.W.kitOne K (.type "bool") (.type "int") = some true := kit_ty (by decide +kernel)
      have k2 : PySem.W.kitOne K (.type "bool") (.type "bool") = some true := kit_ty (by decide +kernel)
      walk_at "rd"
    | none => exact ⟨_, rfl, _, _, _, _, false, rfl, .ty _, .base .non, kit_ty (by decide +kernel), false, rfl, iteF k⟩
    | str x => exact ⟨_, rfl, _, _, _, _, false, rfl, .ty _, .base (.str _), kit_ty (by decide +kernel), false, rfl, iteF k⟩
    | _ => exact nomatch hd
def sp_Ltwo (K : PySem.W.Frag) : Sp := fun vs H Q _ => ∃ (d e : PyData) (m : Int), vs = [fv d, fv e, .int m] ∧ flatD d = true ∧ flatD e = true ∧ Q (.bl (twoB d e m)) H
theorem ok_Lare_two (T : Txt w K mg) : FnOk P w K mg base CX0 2 T.f_Lare_two T.fd_Lare_two ["_law_one", "_law_other", "_law_most"] (sp_Ltwo K) := by
  have G_Lis_count := ok_Lis_count (P := P) (w := w) (base := base) T
  refine T.F_Lare_two.ok sc_Lare_two (fun vs H Q E h => ?_) (fun cdv A outer s H vs Q E hr h => ?_)
  · obtain ⟨d, e, m, rfl, hd, he, k⟩ := h; rfl
  · obtain ⟨d, e, m, rfl, hd, he, k⟩ := h
    refine ⟨_, (pss_one (ps_ret (pe_or (pe_and (pe_cmpR op_isN (pv 0) pe_non (nomark _)) (pe_one (pe_cmpR op_isN (pv 1) pe_non (nomark _)))) (pe_one (pe_and (pe_call G_Lis_count (hr.mono (by decide)) rfl T.g_Lis_count T.F_Lis_count.kp T.b_Lis_count .nil pass0 (pa_cons (pv 0) (pa_cons (pv 2) pa_nil))) (pe_one (pe_call G_Lis_count (hr.mono (by decide)) rfl T.g_Lis_count T.F_Lis_count.kp T.b_Lis_count .nil pass0 (pa_cons (pv 1) (pa_cons pe_int pa_nil))))))))), ?_⟩
    clear G_Lis_count
    clear hr
    have hO : Own K (fun _ => none) [] [] := Own.start
    walk_at "go"
    cases ga : decide (fv d = V.non) with
    | true =>
      walk_at "go"
      cases gb : decide (fv e = V.non) with
      | true =>
        walk_at "go"
        exact qbl k (by simp [twoB, noneB, ga, gb])
      | false =>
        walk_at "go"
        cases gc : btwB d 0 m with
        | true =>
          walk_at "go"
          cases gd : btwB e 0 65535 with
          | true =>
            walk_at "go"
            exact qbl k (by simp [twoB, noneB, ga, gb, gc, gd])
          | false =>
            walk_at "go"
            exact qbl k (by simp [twoB, noneB, ga, gb, gc, gd])
        | false =>
          walk_at "go"
          exact qbl k (by simp [twoB, noneB, ga, gb, gc])
    | false =>
      walk_at "go"
      cases gc : btwB d 0 m with
      | true =>
        walk_at "go"
        cases gd : btwB e 0 65535 with
        | true =>
          walk_at "go"
          exact qbl k (by simp [twoB, noneB, ga, gc, gd])
        | false =>
          walk_at "go"
          exact qbl k (by simp [twoB, noneB, ga, gc, gd])
      | false =>
        walk_at "go"
        exact qbl k (by simp [twoB, noneB, ga, gc])
def sp_Lisrow (K : PySem.W.Frag) : Sp := fun vs H Q _ => ∃ (v : V) (kd : Option (List PyData)) (R : List (Addr × Ob)) (P : List Pf), vs = [v] ∧ Own K H R P ∧ AnyV K H P v kd ∧ Q (.bl (rowB kd)) H
theorem ok_Lis_row (T : Txt w K mg) : FnOk P w K mg base CX0 3 T.f_Lis_row T.fd_Lis_row ["_law_value"] (sp_Lisrow K) := by
  have G_Lis_count := ok_Lis_count (P := P) (w := w) (base := base) T
  have G_Lare_two := ok_Lare_two (P := P) (w := w) (base := base) T
  refine T.F_Lis_row.ok sc_Lis_row (fun vs H Q E h => ?_) (fun cdv A outer s H vs Q E hr h => ?_)
  · obtain ⟨v, kd, R, P, rfl, hO, hv, k⟩ := h; rfl
  · obtain ⟨v, kd, R, P, rfl, hO, hv, k⟩ := h
    refine ⟨_, (pss_cons (ps_if (PW.pt (pw_or (pt_not (pt_val (pe_callB call_isi (by rfl) T.m_isinstance (by decide +kernel) (pa_cons (pv 0) (pa_cons (pe_bltn (v := .ty "tuple") (u := .type "tuple") (by rfl) T.m_tuple (by decide +kernel) rfl) pa_nil))))) (pw_or (pt_cmpR op_ne (pe_callB call_len_seq (by rfl) T.m_len (by decide +kernel) (pa_cons (pv 0) pa_nil)) pe_int (nomark _)) (pw_or1 (pt_not (pt_val (pe_call G_Lis_count (hr.mono (by decide)) rfl T.g_Lis_count T.F_Lis_count.kp T.b_Lis_count .nil pass0 (pa_cons (pe_ix ix_tup (pv 0) pe_int (fun _ _ => rfl)) (pa_cons pe_int pa_nil)))))))))
          (pss_one (ps_ret pe_bl))
          pss_nil)
        (pss_cons (ps_if (pt_mid (PW.pt (pw_or (PW.pt (pw_and (pt_cmpR op_notN (pe_ix ix_tup (pv 0) pe_int (fun _ _ => rfl)) pe_non (nomark _)) (pw_and1 (pt_not (pt_val (pe_call G_Lis_count (hr.mono (by decide)) rfl T.g_Lis_count T.F_Lis_count.kp T.b_Lis_count .nil pass0 (pa_cons (pe_ix ix_tup (pv 0) pe_int (fun _ _ => rfl)) (pa_cons pe_int pa_nil)))))))) (pw_or1 (pt_not (pt_val (pe_call G_Lis_count (hr.mono (by decide)) rfl T.g_Lis_count T.F_Lis_count.kp T.b_Lis_count .nil pass0 (pa_cons (pe_ix ix_tup (pv 0) pe_int (fun _ _ => rfl)) (pa_cons pe_int pa_nil)))))))))
          (pss_one (ps_ret pe_bl))
          pss_nil)
        (pss_one (ps_ret (pe_and (pe_call G_Lare_two (hr.mono (by decide)) rfl T.g_Lare_two T.F_Lare_two.kp T.b_Lare_two .nil pass0 (pa_cons (pe_ix ix_tup (pv 0) pe_int (fun _ _ => rfl)) (pa_cons (pe_ix ix_tup (pv 0) pe_int (fun _ _ => rfl)) (pa_cons pe_int pa_nil)))) (pe_one (pe_call G_Lare_two (hr.mono (by decide)) rfl T.g_Lare_two T.F_Lare_two.kp T.b_Lare_two .nil pass0 (pa_cons (pe_ix ix_tup (pv 0) pe_int (fun _ _ => rfl)) (pa_cons (pe_ix ix_tup (pv 0) pe_int (fun _ _ => rfl)) (pa_cons pe_int pa_nil)))))))))), ?_⟩
    clear G_Lis_count G_Lare_two
    clear hr
    cases kd with
    | none =>
      obtain ⟨ty, h1, h2⟩ := hv
      refine ⟨_, rfl, _, _, ty, .type "tuple", false, rfl, .ty _, h1, h2, ?_⟩
      walk_at "go"
    | some ds =>
      obtain ⟨t, rfl, hm, hf, hz⟩ := hv
      have hS := hO.psq hm
      refine ⟨_, rfl, _, _, _, _, true, rfl, .ty _, tyx_tup hS, kit_ty (by decide +kernel), ?_⟩
      walk_at "go"
      by_cases hl : ds.length = 7
      · obtain ⟨d0, d1, d2, d3, d4, d5, d6, rfl⟩ : ∃ a b c d e f g, ds = [a, b, c, d, e, f, g] := by
          match ds, hl with
          | [a, b, c, d, e, f, g], _ => exact ⟨a, b, c, d, e, f, g, rfl⟩
        have f0 := hf d0 (by simp)
        have f1 := hf d1 (by simp)
        have f2 := hf d2 (by simp)
        have f3 := hf d3 (by simp)
        have f4 := hf d4 (by simp)
        have f5 := hf d5 (by simp)
        have f6 := hf d6 (by simp)
        have at0 : atI ([d0, d1, d2, d3, d4, d5, d6].map fv) (0 : Int) = some (fv d0) := atI_nat (j := 0) rfl
        have at1 : atI ([d0, d1, d2, d3, d4, d5, d6].map fv) (1 : Int) = some (fv d1) := atI_nat (j := 1) rfl
        have at2 : atI ([d0, d1, d2, d3, d4, d5, d6].map fv) (2 : Int) = some (fv d2) := atI_nat (j := 2) rfl
        have at3 : atI ([d0, d1, d2, d3, d4, d5, d6].map fv) (3 : Int) = some (fv d3) := atI_nat (j := 3) rfl
        have at4 : atI ([d0, d1, d2, d3, d4, d5, d6].map fv) (4 : Int) = some (fv d4) := atI_nat (j := 4) rfl
        have at5 : atI ([d0, d1, d2, d3, d4, d5, d6].map fv) (5 : Int) = some (fv d5) := atI_nat (j := 5) rfl
        have at6 : atI ([d0, d1, d2, d3, d4, d5, d6].map fv) (6 : Int) = some (fv d6) := atI_nat (j := 6) rfl
        have e2 : decide (V.int (([d0, d1, d2, d3, d4, d5, d6].map fv).length : Nat) = V.int (7 : Int)) = true := decide_eq_true rfl
        rw [e2]
        walk_at "go"
        cases h0 : btwB d0 0 4095 with
        | false =>
          walk_at "go"
          exact qbl k (by simp [rowB, headB, h0])
        | true =>
          walk_at "go"
          refine Stop.mk ⟨fun b H' => Stop (b = !((noneB d1 || btwB d1 0 65535) && btwB d2 0 31) ∧ H' = H), ?_, fun b H' hM => ?_⟩
          · walk_at "go"
            cases h1 : decide (fv d1 = V.non) with
            | true =>
              walk_at "go"
              cases h2 : btwB d2 0 31 with
              | true =>
                walk_at "go"
                exact ⟨(by simp [noneB, h1, h2]), rfl⟩
              | false =>
                walk_at "go"
                exact ⟨(by simp [noneB, h1, h2]), rfl⟩
            | false =>
              walk_at "go"
              cases h3 : btwB d1 0 65535 with
              | true =>
                walk_at "go"
                cases h2 : btwB d2 0 31 with
                | true =>
                  walk_at "go"
                  exact ⟨(by simp [noneB, h1, h3, h2]), rfl⟩
                | false =>
                  walk_at "go"
                  exact ⟨(by simp [noneB, h1, h3, h2]), rfl⟩
              | false =>
                walk_at "go"
                exact ⟨(by simp [noneB, h1, h3]), rfl⟩
          obtain ⟨hb, rfl⟩ := hM.h
          cases hh : ((noneB d1 || btwB d1 0 65535) && btwB d2 0 31) with
          | false =>
            rw [hh] at hb
            subst hb
            walk_at "go"
            exact qbl k (by simp only [rowB, headB, h0, Bool.true_and, hh, Bool.false_and])
          | true =>
            rw [hh] at hb
            subst hb
            have er : rowB (some [d0, d1, d2, d3, d4, d5, d6]) = (twoB d3 d4 7 && twoB d5 d6 1023) := by simp only [rowB, headB, h0, Bool.true_and, hh]
            walk_at "go"
            cases gg : twoB d3 d4 7 with
            | false =>
              walk_at "go"
              exact qbl k (by rw [er, gg]; rfl)
            | true =>
              walk_at "go"
              exact qbl k (by rw [er, gg]; rfl)
      · have e2 : decide (V.int ((ds.map fv).length : Nat) = V.int (7 : Int)) = false := by
          rw [List.length_map]
          refine decide_eq_false fun h => ?_
          injection h with h
          omega
        rw [e2]
        walk_at "go"
        refine qbl k ?_
        unfold rowB
        split
        · simp_all
        · rfl
end
end K91

set_option Elab.async false
set_option linter.all false
set_option maxRecDepth 100000
set_option maxHeartbeats 8000000

namespace K91
open PySem PySem.Spec PyProof.Rows L2 Hx 
local macro_rules | `(tactic| walk_at "sm") => `(tactic| repeat' (first | assumption | apply Hx.Same.upd | exact L2.Same.refl _ | apply same_trans'))
local macro_rules | `(tactic| walk_at "hp") => `(tactic| repeat' (first | assumption | exact upd_same | apply old_upd | apply same_at))
local macro_rules | `(tactic| walk_at "rd") => `(tactic| repeat' (first | rfl | apply Exists.intro | apply And.intro | refine iteT ?_ | refine iteF ?_ | exact upd_same | exact SqL.of (by assumption) | exact SqL.of upd_same | exact SqT.of upd_same | exact SqT.of (by assumption) | ((with_reducible show (_ : Int) < _); omega) | ((with_reducible show (_ : Int) ≤ _); omega) | (show (_ : Prop); assumption) | exact Or.inl ⟨_, by assumption, rfl⟩ | exact Or.inl ⟨rfl, _, SqL.of (by assumption)⟩ | exact Or.inl ⟨rfl, _, SqL.of upd_same⟩ | apply old_upd | apply Hx.SqL.new | apply tyl_new | apply Pot.new | exact same_at (by assumption) (by assumption) | exact Or.inl (SqL.of (by assumption)) | exact Or.inl (by assumption) | exact Or.inl (SqL.of upd_same) | exact size_le (Nat.le_of_ble_eq_true rfl) | exact Nat.le_of_ble_eq_true rfl | exact True.intro | exact Or.inl rfl | exact Or.inr rfl | (show (_ : Prop); omega) | (show (_ : Prop); dsimp only; omega) | exact mulw64 (by omega) (by omega) | exact mulw64 (by (try dsimp only); omega) (by (try dsimp only); omega)))
local macro_rules | `(tactic| walk_at "mem") => `(tactic| ((repeat (first | exact List.Mem.head _ | apply List.Mem.tail | fail)); done))
local macro_rules | `(tactic| walk_at "setat") => `(tactic| ((repeat (first | (with_reducible exact At.head) | (with_reducible apply At.tail) | (with_reducible apply At.app) | fail)); done))
set_option hygiene false in
local macro_rules | `(tactic| walk_at "dv") => `(tactic| ((repeat' (first | exact Dv.nil | exact Dv.of (by walk_at "mem") | exact Dv.ints _ | exact Dv1.of (by walk_at "mem") | exact Dv1.int _ | exact Dv1.non | exact Dv1.bl _ | exact Dv1.str _ | (with_reducible apply Dv.cons) | refine Dv1.tup (by walk_at "mem") ?_ | refine Dv1.lst (by walk_at "mem") ?_ | (with_reducible apply Dv.app) | fail)); done))
local macro_rules | `(tactic| walk_at "ft") => `(tactic| (first | (with_reducible exact Ft.refl) | ((with_reducible apply Ft.toL); focus walk_at "dv") | ((with_reducible apply Ft.toS); focus assumption) | (with_reducible apply Ft.lst) | (with_reducible apply Ft.Le) | (with_reducible apply Ft.dK) | (with_reducible apply Ft.De) | (with_reducible apply Ft.ins) | (with_reducible apply Ft.toL) | (with_reducible apply Ft.toS) | (with_reducible apply Ft.toD) | fail))
local macro_rules | `(tactic| walk_at "sbL") => `(tactic| repeat' (first | (with_reducible exact Sb.refl _) | exact Sb.nil | (with_reducible apply Sb.cons) | (with_reducible apply Sb.app) | (with_reducible exact Pk.one) | (with_reducible exact Pk.here) | (with_reducible exact Pk.all) | (with_reducible apply Pk.skip1) | (with_reducible apply Pk.skipB) | (with_reducible apply Sb.skip) | (with_reducible apply Sb.skipB) | ((with_reducible show Ft _ _ _ _); walk_at "ft") | ((with_reducible show (_ : List _) = _); (first | rfl | (simp [List.map_set, List.map_append]; done) | fail)) | fail))
local macro_rules | `(tactic| walk_at "sb") => `(tactic| ((walk_at "sbL"); done))
local macro_rules | `(tactic| walk_at "ps") => `(tactic| ((repeat' (first | (with_reducible exact Ps.refl) | exact Ps.nil | (with_reducible apply Ps.cons) | exact List.Mem.head _ | apply List.Mem.tail | (with_reducible apply Ps.skip) | fail)); done))
set_option hygiene false in
local macro_rules | `(tactic| walk_at "at") => `(tactic| first | assumption | exact Own.raw hO (by walk_at "mem") | exact Own.ptup hO (by walk_at "mem") | exact Own.plst hO (by walk_at "mem") | fail)
set_option hygiene false in
local macro_rules | `(tactic| walk_at "st") => `(tactic| (rw [upd_mkO hO]; generalize e : updX _ _ _ = H1; (first | ((apply Own.cset hO e); (focus walk_at "setat"); (try clear hO e); intro hO) | ((apply Own.cnewT hO e); (focus assumption); (try clear hO e); intro hO) | ((apply Own.cnew hO e); (focus assumption); (try clear hO e); intro hO) | fail)))
set_option hygiene false in
local macro_rules | `(tactic| walk_at "mk") => `(tactic| (intro p1 p2 f1 f2 f3; rw [upd_mkO hO]; generalize e : upd (updX _ _ _) _ _ = H1; apply Own.cmake hO f1 f2 f3 e; (try clear hO e); intro hO))
set_option hygiene false in
local macro_rules | `(tactic| walk_at "own") => `(tactic| (first | ((apply Own.sub hO); (focus walk_at "sb"); (focus walk_at "ps")) | ((apply Own.sub hF); (focus walk_at "sb"); (focus walk_at "ps")) | fail))
set_option hygiene false in
local macro_rules | `(tactic| walk_at "fin") => `(tactic| (refine Own.sub hO ?_ (by walk_at "ps"); walk_at "sbL"))
set_option hygiene false in
local macro_rules | `(tactic| walk_at "g1") => `(tactic| (first
 | ((with_reducible show (_ : Option HO) = _); walk_at "at")
 | ((with_reducible show (_ : Int) < _); omega) | ((with_reducible show (_ : Int) ≤ _); omega)
 | ((with_reducible show (_ : Nat) < _); (first | assumption | exact Nat.le_of_ble_eq_true rfl | exact size_lt (Nat.le_of_ble_eq_true rfl) | omega | (simp; done) | (simp; omega) | fail))
 | ((with_reducible show (_ : Nat) ≤ _); (first | assumption | exact Nat.le_of_ble_eq_true rfl | exact size_le (Nat.le_of_ble_eq_true rfl) | omega | (simp; done) | (simp; omega) | fail))
 | ((with_reducible show (_ : Pf) ∈ _); (first | assumption | (focus walk_at "mem") | ((repeat (with_reducible apply List.mem_cons_of_mem)); assumption) | fail))
 | ((with_reducible show Own _ _ _ _); (first | walk_at "own" | (walk_at "st"; walk_at "own") | fail))
 | ((with_reducible show SqL _ _ _ _); (first | assumption | exact SqL.of (by walk_at "at") | fail))
 | ((with_reducible show SqT _ _ _ _); (first | assumption | exact hO.psq (by walk_at "mem") | exact hO.psq (by assumption) | exact SqT.of (by walk_at "at") | fail))
   | ((with_reducible show V.ref _ = V.ref _); (first | rfl | fail))
 | ((with_reducible show DGet _ _ _ _); (first | exact DGet.ki (by walk_at "at") (by assumption) | exact DGet.kiF (by walk_at "at") (by assumption) | fail))
 | ((with_reducible show DPut _ _ _ _ _); exact DPut.ki (by walk_at "at") (by assumption))
 | ((with_reducible show Rd _ _ _); (first | exact Or.inl (by walk_at "at") | exact Or.inr ⟨_, by walk_at "at"⟩ | fail))
 | ((with_reducible show (∃ _ : List (Key × V), _) ∨ _); refine Or.inl ⟨_, by walk_at "at", ?_⟩)
 | ((with_reducible show Dv _ _ _ _); focus walk_at "dv") | ((with_reducible show Dv1 _ _ _ _); focus walk_at "dv")
 | ((with_reducible show IsD _ _); exact Or.inl ⟨_, Or.inl (by walk_at "at")⟩)
 | ((with_reducible show V.int _ = kV _); exact kV_int)
 | ((with_reducible show Option.isSome _ = true); (first | exact isSome_ofV (by assumption) | assumption | fail))
 | ((with_reducible show SqL _ _ _ _ ∨ SqT _ _ _ _); (first | exact Or.inl (by assumption) | exact Or.inr (by assumption) | exact Or.inl (SqL.of (by walk_at "at")) | exact Or.inr (SqT.of (by walk_at "at")) | fail))
 | ((with_reducible show Dp _ _ _ _); (first | assumption | exact hO.dpL (by walk_at "mem") | exact .lst (SqL.of (by walk_at "at")) (hO.all (by walk_at "dv")) | exact hO.one (by walk_at "dv") | fail))
 | ((with_reducible show TruV _ _ _ _); (first | exact Or.inl ⟨_, SqL.of (by walk_at "at"), rfl⟩ | exact Or.inr (Or.inr ⟨_, by walk_at "at", rfl⟩) | exact Or.inr (Or.inl ⟨_, SqT.of (by walk_at "at"), rfl⟩) | fail))
 | ((with_reducible show RgOk _ _); exact RgOk.of_le (by omega) (by omega) (by omega) (by omega))
 | rfl | (with_reducible assumption) | apply And.intro | apply Exists.intro | refine iteT ?_ | refine iteF ?_
 | (walk_at "st"; (try walk_at "fl"))
 | ((with_reducible show ∀ _ : Addr, _ = none → _); (fail_if_success (with_reducible show ∀ _ : Addr, _ = none → ∃ _ : Nat → Nat → Hp → Prop, _)); intro p fp; walk_at "st")
 | (refine Or.inl ⟨SqL.of (by walk_at "at"), ?_⟩) | (refine Or.inr ⟨SqT.of (by walk_at "at"), ?_⟩) | exact Or.inl ⟨_, by walk_at "at", rfl⟩ | exact Or.inl ⟨rfl, _, SqL.of (by walk_at "at")⟩ | exact tyl_of (by walk_at "at") | exact Or.inl (SqL.of (by walk_at "at")) | exact Or.inr (SqT.of (by walk_at "at")) | exact Or.inl (by walk_at "at") | exact size_le (Nat.le_of_ble_eq_true rfl) | exact Nat.le_of_ble_eq_true rfl | exact True.intro | exact Or.inl rfl | exact Or.inr rfl | (show (_ : Prop); assumption) | (show (_ : Prop); omega) | (show (_ : Prop); dsimp only; omega) | exact mulw64 (by omega) (by omega) | exact mulw64 (by (try dsimp only); omega) (by (try dsimp only); omega) | fail))
local macro_rules | `(tactic| walk_at "go") => `(tactic| repeat walk_at "g1")

section
variable {P : Program} {w : World} {K : PySem.W.Frag} {mg : Str → Option Value} {base : Heap}
def sp_Lispoint (K : PySem.W.Frag) : Sp := fun vs H Q _ => ∃ (v : V) (kd : Option (List PyData)) (R : List (Addr × Ob)) (P : List Pf), vs = [v] ∧ Own K H R P ∧ AnyV K H P v kd ∧ (∀ n d, kd = some [.str n, d] → n ∈ (["at", "register", "place", "cause", "1"] : List Str)) ∧
  ∀ (H' : Hp) (P' : List Pf), Ps P P' → Own K H' R P' → Q (.bl (ptB kd)) H'
theorem ok_Lis_point (T : Txt w K mg) : FnOk P w K mg base CX0 2 T.f_Lis_point T.fd_Lis_point ["_law_value"] (sp_Lispoint K) := by
  have G_Lis_count := ok_Lis_count (P := P) (w := w) (base := base) T
  refine T.F_Lis_point.ok sc_Lis_point (fun vs H Q E h => ?_) (fun cdv A outer s H vs Q E hr h => ?_)
  · obtain ⟨v, kd, R, P, rfl, hO, hv, hn, k⟩ := h; rfl
  · obtain ⟨v, kd, R, P, rfl, hO, hv, hn, k⟩ := h
    refine ⟨_, (pss_cons (ps_if (PW.pt (pw_or (pt_not (pt_val (pe_callB call_isi (by rfl) T.m_isinstance (by decide +kernel) (pa_cons (pv 0) (pa_cons (pe_bltn (v := .ty "tuple") (u := .type "tuple") (by rfl) T.m_tuple (by decide +kernel) rfl) pa_nil))))) (pw_or (pt_cmpR op_ne (pe_callB call_len_seq (by rfl) T.m_len (by decide +kernel) (pa_cons (pv 0) pa_nil)) pe_int (nomark _)) (pw_or1 (pt_not (pt_val (pe_callB call_isi (by rfl) T.m_isinstance (by decide +kernel) (pa_cons (pe_ix ix_tup (pv 0) pe_int (fun _ _ => rfl)) (pa_cons (pe_bltn (v := .ty "str") (u := .type "str") (by rfl) T.m_str (by decide +kernel) rfl) pa_nil)))))))))
          (pss_one (ps_ret pe_bl))
          pss_nil)
        (pss_cons (ps_if (PW.pt (pw_or (pt_cmpR op_notIn_seq (pe_ix ix_tup (pv 0) pe_int (fun _ _ => rfl)) (pe_tup (pa_cons pe_str (pa_cons pe_str (pa_cons pe_str (pa_cons pe_str pa_nil))))) (by rfl)) (pw_or1 (pt_not (pt_val (pe_callB call_isi (by rfl) T.m_isinstance (by decide +kernel) (pa_cons (pe_ix ix_tup (pv 0) pe_int (fun _ _ => rfl)) (pa_cons (pe_bltn (v := .ty "int") (u := .type "int") (by rfl) T.m_int (by decide +kernel) rfl) pa_nil))))))))
          (pss_one (ps_ret pe_bl))
          pss_nil)
        (pss_cons (ps_set (i := 1) sc_Lis_point.nd rfl (Or.inl rfl) (pe_dget (hu_of hr) (pe_dispK (ks := [.inr "at", .inr "register", .inr "place", .inr "cause"]) (pps_cons pe_str pe_int (pps_cons pe_str pe_int (pps_cons pe_str pe_int (pps_cons pe_str pe_int pps_nil)))) (by rfl) (by rfl) (fun z => by cases z) (by decide) (by decide)) (pe_ix ix_tup (pv 0) pe_int (fun _ _ => rfl)) (fun _ _ => rfl)))
        (pss_one (ps_ret (pe_and (pe_call G_Lis_count (hr.mono (by decide)) rfl T.g_Lis_count T.F_Lis_count.kp T.b_Lis_count .nil pass0 (pa_cons (pe_ix ix_tup (pv 0) pe_int (fun _ _ => rfl)) (pa_cons (pv 1) pa_nil))) (pe_one (pe_or (pe_cmpR op_ne (pe_ix ix_tup (pv 0) pe_int (fun _ _ => rfl)) pe_str (nomark _)) (pe_one (pe_cmpR op_gt (pe_ix ix_tup (pv 0) pe_int (fun _ _ => rfl)) pe_int (nomark _))))))))))), ?_⟩
    clear G_Lis_count
    clear hr
    cases kd with
    | none =>
      obtain ⟨ty, h1, h2⟩ := hv
      refine ⟨_, rfl, _, _, ty, .type "tuple", false, rfl, .ty _, h1, h2, ?_⟩
      walk_at "go"
      exact k _ _ Ps.refl hO
    | some ds =>
      obtain ⟨t, rfl, hm, hf, hz⟩ := hv
      have hS := hO.psq hm
      replace hO := hO.derive (q := .sq t (ds.map fv)) fun M z => z _ hm
      refine ⟨_, rfl, _, _, _, _, true, rfl, .ty _, tyx_tup hS, kit_ty (by decide +kernel), ?_⟩
      walk_at "go"
      by_cases hl : ds.length = 2
      · obtain ⟨x, y, rfl⟩ : ∃ x y, ds = [x, y] := by
          match ds, hl with
          | [x, y], _ => exact ⟨x, y, rfl⟩
        have fx := hf x List.mem_cons_self
        have fy := hf y (List.mem_cons_of_mem _ List.mem_cons_self)
        have at0 : atI ([x, y].map fv) (0 : Int) = some (fv x) := atI_nat (j := 0) rfl
        have at1 : atI ([x, y].map fv) (1 : Int) = some (fv y) := atI_nat (j := 1) rfl
        have e2 : decide (V.int (([x, y].map fv).length : Nat) = V.int (2 : Int)) = true := decide_eq_true rfl
        rw [e2]
        have cv : ClsV (.ty "str") (.type "str") := .ty _
        cases x with
        | str n =>
          have ty : TyX K H (fv (.str n)) (.type "str") := .base (.str _)
          have ks : PySem.W.kitOne K (.type "str") (.type "str") = some true := kit_ty (by decide +kernel)
          walk_at "go"
          have cv2 : ClsV (.ty "int") (.type "int") := .ty _
          have hn5 := hn n y rfl
          simp only [List.mem_cons, List.not_mem_nil, or_false] at hn5
          rcases hn5 with rfl | rfl | rfl | rfl | rfl
          · skip
            have e3 : inV (fv (.str "at")) [V.str ("at" : Str), V.str ("register" : Str), V.str ("place" : Str), V.str ("cause" : Str)] = true := by decide +kernel
            rw [if_pos rfl, e3]
            have hkk : kiOf "at" = some (0, 4095, 0) := by decide +kernel
            cases y with
            | int i =>
              have ty1 : TyX K H1 (fv (.int i)) (.type "int") := .base (.int _)
              have k1 : PySem.W.kitOne K (.type "int") (.type "int") = some true := kit_ty (by decide +kernel)
              walk_at "go"
              refine fun p hp => ?_
              refine ⟨upd_same, rfl, ?_⟩
              generalize hkv : mergeK [] (List.zip _ _) = kvs
              have hv : valV kvs (Sum.inr "at") = some (.int 4095) := by subst hkv; rfl
              replace hO := (hO.new (o := .dK []) hp rfl).set (o := .dK kvs) .head rfl
              generalize upd (upd H1 p (.dK [])) p (.dK kvs) = H2 at hO ⊢
              have dg : DGet H2 p (fv (.str "at")) (some (.int 4095)) := DGet.ks (hO.raw List.mem_cons_self) hv
              clear ty1 k1 ty ks cv
              walk_at "go"
              cases hb : btwB (PyData.int i) 0 4095 with
              | false =>
                walk_at "go"
                exact qbl (k _ _ (Ps.skip (Ps.skip Ps.refl)) (hO.sub (Sb.skip (Sb.refl _)) Ps.refl)) (by rw [ptB_at hkk, hb])
              | true =>
                walk_at "go"
                exact qbl (k _ _ (Ps.skip (Ps.skip Ps.refl)) (hO.sub (Sb.skip (Sb.refl _)) Ps.refl)) (by rw [ptB_at hkk, hb])
            | bool b =>
              have ty1 : TyX K H1 (fv (.bool b)) (.type "bool") := .base (.bl _)
              have k1 : PySem.W.kitOne K (.type "bool") (.type "int") = some true := kit_ty (by decide +kernel)
              walk_at "go"
              refine fun p hp => ?_
              refine ⟨upd_same, rfl, ?_⟩
              generalize hkv : mergeK [] (List.zip _ _) = kvs
              have hv : valV kvs (Sum.inr "at") = some (.int 4095) := by subst hkv; rfl
              replace hO := (hO.new (o := .dK []) hp rfl).set (o := .dK kvs) .head rfl
              generalize upd (upd H1 p (.dK [])) p (.dK kvs) = H2 at hO ⊢
              have dg : DGet H2 p (fv (.str "at")) (some (.int 4095)) := DGet.ks (hO.raw List.mem_cons_self) hv
              clear ty1 k1 ty ks cv
              walk_at "go"
              cases hb : btwB (PyData.bool b) 0 4095 with
              | false =>
                walk_at "go"
                exact qbl (k _ _ (Ps.skip (Ps.skip Ps.refl)) (hO.sub (Sb.skip (Sb.refl _)) Ps.refl)) (by rw [ptB_at hkk]; rfl)
              | true => exact nomatch (show false = true from hb)
            | none =>
              have ty1 : TyX K H1 (fv .none) (.type "NoneType") := .base .non
              have k1 : PySem.W.kitOne K (.type "NoneType") (.type "int") = some false := kit_ty (by decide +kernel)
              walk_at "go"
              exact qbl (k _ _ (Ps.skip (Ps.skip Ps.refl)) hO) (by rw [ptB_at hkk]; rfl)
            | str z =>
              have ty1 : TyX K H1 (fv (.str z)) (.type "str") := .base (.str _)
              have k1 : PySem.W.kitOne K (.type "str") (.type "int") = some false := kit_ty (by decide +kernel)
              walk_at "go"
              exact qbl (k _ _ (Ps.skip (Ps.skip Ps.refl)) hO) (by rw [ptB_at hkk]; rfl)
            | _ => exact nomatch fy
          · skip
            have e3 : inV (fv (.str "register")) [V.str ("at" : Str), V.str ("register" : Str), V.str ("place" : Str), V.str ("cause" : Str)] = true := by decide +kernel
            rw [if_pos rfl, e3]
            have hkk : kiOf "register" = some (0, 7, 3) := by decide +kernel
            cases y with
            | int i =>
              have ty1 : TyX K H1 (fv (.int i)) (.type "int") := .base (.int _)
              have k1 : PySem.W.kitOne K (.type "int") (.type "int") = some true := kit_ty (by decide +kernel)
              walk_at "go"
              refine fun p hp => ?_
              refine ⟨upd_same, rfl, ?_⟩
              generalize hkv : mergeK [] (List.zip _ _) = kvs
              have hv : valV kvs (Sum.inr "register") = some (.int 7) := by subst hkv; rfl
              replace hO := (hO.new (o := .dK []) hp rfl).set (o := .dK kvs) .head rfl
              generalize upd (upd H1 p (.dK [])) p (.dK kvs) = H2 at hO ⊢
              have dg : DGet H2 p (fv (.str "register")) (some (.int 7)) := DGet.ks (hO.raw List.mem_cons_self) hv
              clear ty1 k1 ty ks cv
              walk_at "go"
              cases hb : btwB (PyData.int i) 0 7 with
              | false =>
                walk_at "go"
                exact qbl (k _ _ (Ps.skip (Ps.skip Ps.refl)) (hO.sub (Sb.skip (Sb.refl _)) Ps.refl)) (by rw [ptB_at hkk, hb])
              | true =>
                walk_at "go"
                exact qbl (k _ _ (Ps.skip (Ps.skip Ps.refl)) (hO.sub (Sb.skip (Sb.refl _)) Ps.refl)) (by rw [ptB_at hkk, hb])
            | bool b =>
              have ty1 : TyX K H1 (fv (.bool b)) (.type "bool") := .base (.bl _)
              have k1 : PySem.W.kitOne K (.type "bool") (.type "int") = some true := kit_ty (by decide +kernel)
              walk_at "go"
              refine fun p hp => ?_
              refine ⟨upd_same, rfl, ?_⟩
              generalize hkv : mergeK [] (List.zip _ _) = kvs
              have hv : valV kvs (Sum.inr "register") = some (.int 7) := by subst hkv; rfl
              replace hO := (hO.new (o := .dK []) hp rfl).set (o := .dK kvs) .head rfl
              generalize upd (upd H1 p (.dK [])) p (.dK kvs) = H2 at hO ⊢
              have dg : DGet H2 p (fv (.str "register")) (some (.int 7)) := DGet.ks (hO.raw List.mem_cons_self) hv
              clear ty1 k1 ty ks cv
              walk_at "go"
              cases hb : btwB (PyData.bool b) 0 7 with
              | false =>
                walk_at "go"
                exact qbl (k _ _ (Ps.skip (Ps.skip Ps.refl)) (hO.sub (Sb.skip (Sb.refl _)) Ps.refl)) (by rw [ptB_at hkk]; rfl)
              | true => exact nomatch (show false = true from hb)
            | none =>
              have ty1 : TyX K H1 (fv .none) (.type "NoneType") := .base .non
              have k1 : PySem.W.kitOne K (.type "NoneType") (.type "int") = some false := kit_ty (by decide +kernel)
              walk_at "go"
              exact qbl (k _ _ (Ps.skip (Ps.skip Ps.refl)) hO) (by rw [ptB_at hkk]; rfl)
            | str z =>
              have ty1 : TyX K H1 (fv (.str z)) (.type "str") := .base (.str _)
              have k1 : PySem.W.kitOne K (.type "str") (.type "int") = some false := kit_ty (by decide +kernel)
              walk_at "go"
              exact qbl (k _ _ (Ps.skip (Ps.skip Ps.refl)) hO) (by rw [ptB_at hkk]; rfl)
            | _ => exact nomatch fy
          · skip
            have e3 : inV (fv (.str "place")) [V.str ("at" : Str), V.str ("register" : Str), V.str ("place" : Str), V.str ("cause" : Str)] = true := by decide +kernel
            rw [if_pos rfl, e3]
            have hkk : kiOf "place" = some (0, 1023, 5) := by decide +kernel
            cases y with
            | int i =>
              have ty1 : TyX K H1 (fv (.int i)) (.type "int") := .base (.int _)
              have k1 : PySem.W.kitOne K (.type "int") (.type "int") = some true := kit_ty (by decide +kernel)
              walk_at "go"
              refine fun p hp => ?_
              refine ⟨upd_same, rfl, ?_⟩
              generalize hkv : mergeK [] (List.zip _ _) = kvs
              have hv : valV kvs (Sum.inr "place") = some (.int 1023) := by subst hkv; rfl
              replace hO := (hO.new (o := .dK []) hp rfl).set (o := .dK kvs) .head rfl
              generalize upd (upd H1 p (.dK [])) p (.dK kvs) = H2 at hO ⊢
              have dg : DGet H2 p (fv (.str "place")) (some (.int 1023)) := DGet.ks (hO.raw List.mem_cons_self) hv
              clear ty1 k1 ty ks cv
              walk_at "go"
              cases hb : btwB (PyData.int i) 0 1023 with
              | false =>
                walk_at "go"
                exact qbl (k _ _ (Ps.skip (Ps.skip Ps.refl)) (hO.sub (Sb.skip (Sb.refl _)) Ps.refl)) (by rw [ptB_at hkk, hb])
              | true =>
                walk_at "go"
                exact qbl (k _ _ (Ps.skip (Ps.skip Ps.refl)) (hO.sub (Sb.skip (Sb.refl _)) Ps.refl)) (by rw [ptB_at hkk, hb])
            | bool b =>
              have ty1 : TyX K H1 (fv (.bool b)) (.type "bool") := .base (.bl _)
              have k1 : PySem.W.kitOne K (.type "bool") (.type "int") = some true := kit_ty (by decide +kernel)
              walk_at "go"
              refine fun p hp => ?_
              refine ⟨upd_same, rfl, ?_⟩
              generalize hkv : mergeK [] (List.zip _ _) = kvs
              have hv : valV kvs (Sum.inr "place") = some (.int 1023) := by subst hkv; rfl
              replace hO := (hO.new (o := .dK []) hp rfl).set (o := .dK kvs) .head rfl
              generalize upd (upd H1 p (.dK [])) p (.dK kvs) = H2 at hO ⊢
              have dg : DGet H2 p (fv (.str "place")) (some (.int 1023)) := DGet.ks (hO.raw List.mem_cons_self) hv
              clear ty1 k1 ty ks cv
              walk_at "go"
              cases hb : btwB (PyData.bool b) 0 1023 with
              | false =>
                walk_at "go"
                exact qbl (k _ _ (Ps.skip (Ps.skip Ps.refl)) (hO.sub (Sb.skip (Sb.refl _)) Ps.refl)) (by rw [ptB_at hkk]; rfl)
              | true => exact nomatch (show false = true from hb)
            | none =>
              have ty1 : TyX K H1 (fv .none) (.type "NoneType") := .base .non
              have k1 : PySem.W.kitOne K (.type "NoneType") (.type "int") = some false := kit_ty (by decide +kernel)
              walk_at "go"
              exact qbl (k _ _ (Ps.skip (Ps.skip Ps.refl)) hO) (by rw [ptB_at hkk]; rfl)
            | str z =>
              have ty1 : TyX K H1 (fv (.str z)) (.type "str") := .base (.str _)
              have k1 : PySem.W.kitOne K (.type "str") (.type "int") = some false := kit_ty (by decide +kernel)
              walk_at "go"
              exact qbl (k _ _ (Ps.skip (Ps.skip Ps.refl)) hO) (by rw [ptB_at hkk]; rfl)
            | _ => exact nomatch fy
          · skip
            have e3 : inV (fv (.str "cause")) [V.str ("at" : Str), V.str ("register" : Str), V.str ("place" : Str), V.str ("cause" : Str)] = true := by decide +kernel
            rw [if_pos rfl, e3]
            have hkk : kiOf "cause" = some (1, 31, 2) := by decide +kernel
            cases y with
            | int i =>
              have ty1 : TyX K H1 (fv (.int i)) (.type "int") := .base (.int _)
              have k1 : PySem.W.kitOne K (.type "int") (.type "int") = some true := kit_ty (by decide +kernel)
              walk_at "go"
              refine fun p hp => ?_
              refine ⟨upd_same, rfl, ?_⟩
              generalize hkv : mergeK [] (List.zip _ _) = kvs
              have hv : valV kvs (Sum.inr "cause") = some (.int 31) := by subst hkv; rfl
              replace hO := (hO.new (o := .dK []) hp rfl).set (o := .dK kvs) .head rfl
              generalize upd (upd H1 p (.dK [])) p (.dK kvs) = H2 at hO ⊢
              have dg : DGet H2 p (fv (.str "cause")) (some (.int 31)) := DGet.ks (hO.raw List.mem_cons_self) hv
              clear ty1 k1 ty ks cv
              walk_at "go"
              cases hb : btwB (PyData.int i) 0 31 with
              | false =>
                walk_at "go"
                exact qbl (k _ _ (Ps.skip (Ps.skip Ps.refl)) (hO.sub (Sb.skip (Sb.refl _)) Ps.refl)) (by rw [ptB_at hkk]; simp only [btwB, decide_eq_false_iff_not] at hb; simp only [btwB]; first | exact decide_eq_false (by omega) | exact (decide_eq_false (by omega)).symm)
              | true =>
                walk_at "go"
                exact qbl (k _ _ (Ps.skip (Ps.skip Ps.refl)) (hO.sub (Sb.skip (Sb.refl _)) Ps.refl)) (by rw [ptB_at hkk]; simp only [btwB, decide_eq_true_eq] at hb ⊢; exact decide_eq_decide.mpr (by omega))
            | bool b =>
              have ty1 : TyX K H1 (fv (.bool b)) (.type "bool") := .base (.bl _)
              have k1 : PySem.W.kitOne K (.type "bool") (.type "int") = some true := kit_ty (by decide +kernel)
              walk_at "go"
              refine fun p hp => ?_
              refine ⟨upd_same, rfl, ?_⟩
              generalize hkv : mergeK [] (List.zip _ _) = kvs
              have hv : valV kvs (Sum.inr "cause") = some (.int 31) := by subst hkv; rfl
              replace hO := (hO.new (o := .dK []) hp rfl).set (o := .dK kvs) .head rfl
              generalize upd (upd H1 p (.dK [])) p (.dK kvs) = H2 at hO ⊢
              have dg : DGet H2 p (fv (.str "cause")) (some (.int 31)) := DGet.ks (hO.raw List.mem_cons_self) hv
              clear ty1 k1 ty ks cv
              walk_at "go"
              cases hb : btwB (PyData.bool b) 0 31 with
              | false =>
                walk_at "go"
                exact qbl (k _ _ (Ps.skip (Ps.skip Ps.refl)) (hO.sub (Sb.skip (Sb.refl _)) Ps.refl)) (by rw [ptB_at hkk]; rfl)
              | true => exact nomatch (show false = true from hb)
            | none =>
              have ty1 : TyX K H1 (fv .none) (.type "NoneType") := .base .non
              have k1 : PySem.W.kitOne K (.type "NoneType") (.type "int") = some false := kit_ty (by decide +kernel)
              walk_at "go"
              exact qbl (k _ _ (Ps.skip (Ps.skip Ps.refl)) hO) (by rw [ptB_at hkk]; rfl)
            | str z =>
              have ty1 : TyX K H1 (fv (.str z)) (.type "str") := .base (.str _)
              have k1 : PySem.W.kitOne K (.type "str") (.type "int") = some false := kit_ty (by decide +kernel)
              walk_at "go"
              exact qbl (k _ _ (Ps.skip (Ps.skip Ps.refl)) hO) (by rw [ptB_at hkk]; rfl)
            | _ => exact nomatch fy
          · have e3 : inV (fv (.str "1")) [V.str ("at" : Str), V.str ("register" : Str), V.str ("place" : Str), V.str ("cause" : Str)] = false := by decide +kernel
            rw [if_pos rfl, e3]
            walk_at "go"
            exact qbl (k _ _ (Ps.skip (Ps.skip Ps.refl)) hO) (ptB_no ki_no).symm
        | int i =>
          have ty : TyX K H (fv (.int i)) (.type "int") := .base (.int _)
          have ks : PySem.W.kitOne K (.type "int") (.type "str") = some false := kit_ty (by decide +kernel)
          walk_at "go"
          exact k _ _ (Ps.skip Ps.refl) hO
        | bool i =>
          have ty : TyX K H (fv (.bool i)) (.type "bool") := .base (.bl _)
          have ks : PySem.W.kitOne K (.type "bool") (.type "str") = some false := kit_ty (by decide +kernel)
          walk_at "go"
          exact k _ _ (Ps.skip Ps.refl) hO
        | none =>
          have ty : TyX K H (fv .none) (.type "NoneType") := .base .non
          have ks : PySem.W.kitOne K (.type "NoneType") (.type "str") = some false := kit_ty (by decide +kernel)
          walk_at "go"
          exact k _ _ (Ps.skip Ps.refl) hO
        | _ => exact nomatch fx
      · have e2 : decide (V.int ((ds.map fv).length : Nat) = V.int (2 : Int)) = false := by
          rw [List.length_map]
          refine decide_eq_false fun h => ?_
          injection h with h
          omega
        rw [e2]
        walk_at "go"
        refine qbl (k _ _ (Ps.skip Ps.refl) hO) ?_
        match ds, hl with
        | [], _ => rfl
        | [_], _ => unfold ptB; split <;> simp_all
        | [_, _], h => exact absurd rfl h
        | _ :: _ :: _ :: _, _ => unfold ptB; split <;> simp_all
end
end K91

set_option Elab.async false
set_option linter.all false
set_option maxRecDepth 100000
set_option maxHeartbeats 8000000

namespace K91
open PySem PySem.Spec PyProof.Rows L2 Hx 
local macro_rules | `(tactic| walk_at "sm") => `(tactic| repeat' (first | assumption | apply Hx.Same.upd | exact L2.Same.refl _ | apply same_trans'))
local macro_rules | `(tactic| walk_at "hp") => `(tactic| repeat' (first | assumption | exact upd_same | apply old_upd | apply same_at))
local macro_rules | `(tactic| walk_at "rd") => `(tactic| repeat' (first | rfl | apply Exists.intro | apply And.intro | refine iteT ?_ | refine iteF ?_ | exact upd_same | exact SqL.of (by assumption) | exact SqL.of upd_same | exact SqT.of upd_same | exact SqT.of (by assumption) | ((with_reducible show (_ : Int) < _); omega) | ((with_reducible show (_ : Int) ≤ _); omega) | (show (_ : Prop); assumption) | exact Or.inl ⟨_, by assumption, rfl⟩ | exact Or.inl ⟨rfl, _, SqL.of (by assumption)⟩ | exact Or.inl ⟨rfl, _, SqL.of upd_same⟩ | apply old_upd | apply Hx.SqL.new | apply tyl_new | apply Pot.new | exact same_at (by assumption) (by assumption) | exact Or.inl (SqL.of (by assumption)) | exact Or.inl (by assumption) | exact Or.inl (SqL.of upd_same) | exact size_le (Nat.le_of_ble_eq_true rfl) | exact Nat.le_of_ble_eq_true rfl | exact True.intro | exact Or.inl rfl | exact Or.inr rfl | (show (_ : Prop); omega) | (show (_ : Prop); dsimp only; omega) | exact mulw64 (by omega) (by omega) | exact mulw64 (by (try dsimp only); omega) (by (try dsimp only); omega)))
local macro_rules | `(tactic| walk_at "mem") => `(tactic| ((repeat (first | exact List.Mem.head _ | apply List.Mem.tail | fail)); done))
local macro_rules | `(tactic| walk_at "setat") => `(tactic| ((repeat (first | (with_reducible exact At.head) | (with_reducible apply At.tail) | (with_reducible apply At.app) | fail)); done))
set_option hygiene false in
local macro_rules | `(tactic| walk_at "dv") => `(tactic| ((repeat' (first | exact Dv.nil | exact Dv.of (by walk_at "mem") | exact Dv.ints _ | exact Dv1.of (by walk_at "mem") | exact Dv1.int _ | exact Dv1.non | exact Dv1.bl _ | exact Dv1.str _ | (with_reducible apply Dv.cons) | refine Dv1.tup (by walk_at "mem") ?_ | refine Dv1.lst (by walk_at "mem") ?_ | (with_reducible apply Dv.app) | fail)); done))
local macro_rules | `(tactic| walk_at "ft") => `(tactic| (first | (with_reducible exact Ft.refl) | ((with_reducible apply Ft.toL); focus walk_at "dv") | ((with_reducible apply Ft.toS); focus assumption) | (with_reducible apply Ft.lst) | (with_reducible apply Ft.Le) | (with_reducible apply Ft.dK) | (with_reducible apply Ft.De) | (with_reducible apply Ft.ins) | (with_reducible apply Ft.toL) | (with_reducible apply Ft.toS) | (with_reducible apply Ft.toD) | fail))
local macro_rules | `(tactic| walk_at "sbL") => `(tactic| repeat' (first | (with_reducible exact Sb.refl _) | exact Sb.nil | (with_reducible apply Sb.cons) | (with_reducible apply Sb.app) | (with_reducible exact Pk.one) | (with_reducible exact Pk.here) | (with_reducible exact Pk.all) | (with_reducible apply Pk.skip1) | (with_reducible apply Pk.skipB) | (with_reducible apply Sb.skip) | (with_reducible apply Sb.skipB) | ((with_reducible show Ft _ _ _ _); walk_at "ft") | ((with_reducible show (_ : List _) = _); (first | rfl | (simp [List.map_set, List.map_append]; done) | fail)) | fail))
local macro_rules | `(tactic| walk_at "sb") => `(tactic| ((walk_at "sbL"); done))
local macro_rules | `(tactic| walk_at "ps") => `(tactic| ((repeat' (first | (with_reducible exact Ps.refl) | exact Ps.nil | (with_reducible apply Ps.cons) | exact List.Mem.head _ | apply List.Mem.tail | (with_reducible apply Ps.skip) | fail)); done))
set_option hygiene false in
local macro_rules | `(tactic| walk_at "at") => `(tactic| first | assumption | exact Own.raw hO (by walk_at "mem") | exact Own.ptup hO (by walk_at "mem") | exact Own.plst hO (by walk_at "mem") | fail)
set_option hygiene false in
local macro_rules | `(tactic| walk_at "st") => `(tactic| (rw [upd_mkO hO]; generalize e : updX _ _ _ = H1; (first | ((apply Own.cset hO e); (focus walk_at "setat"); (try clear hO e); intro hO) | ((apply Own.cnewT hO e); (focus assumption); (try clear hO e); intro hO) | ((apply Own.cnew hO e); (focus assumption); (try clear hO e); intro hO) | fail)))
set_option hygiene false in
local macro_rules | `(tactic| walk_at "mk") => `(tactic| (intro p1 p2 f1 f2 f3; rw [upd_mkO hO]; generalize e : upd (updX _ _ _) _ _ = H1; apply Own.cmake hO f1 f2 f3 e; (try clear hO e); intro hO))
set_option hygiene false in
local macro_rules | `(tactic| walk_at "own") => `(tactic| (first | ((apply Own.sub hO); (focus walk_at "sb"); (focus walk_at "ps")) | ((apply Own.sub hF); (focus walk_at "sb"); (focus walk_at "ps")) | fail))
set_option hygiene false in
local macro_rules | `(tactic| walk_at "fin") => `(tactic| (refine Own.sub hO ?_ (by walk_at "ps"); walk_at "sbL"))
set_option hygiene false in
local macro_rules | `(tactic| walk_at "g1") => `(tactic| (first
 | ((with_reducible show (_ : Option HO) = _); walk_at "at")
 | ((with_reducible show (_ : Int) < _); omega) | ((with_reducible show (_ : Int) ≤ _); omega)
 | ((with_reducible show (_ : Nat) < _); (first | assumption | exact Nat.le_of_ble_eq_true rfl | exact size_lt (Nat.le_of_ble_eq_true rfl) | omega | (simp; done) | (simp; omega) | fail))
 | ((with_reducible show (_ : Nat) ≤ _); (first | assumption | exact Nat.le_of_ble_eq_true rfl | exact size_le (Nat.le_of_ble_eq_true rfl) | omega | (simp; done) | (simp; omega) | fail))
 | ((with_reducible show (_ : Pf) ∈ _); (first | assumption | (focus walk_at "mem") | ((repeat (with_reducible apply List.mem_cons_of_mem)); assumption) | fail))
 | ((with_reducible show Own _ _ _ _); (first | walk_at "own" | (walk_at "st"; walk_at "own") | fail))
 | ((with_reducible show SqL _ _ _ _); (first | assumption | exact SqL.of (by walk_at "at") | fail))
 | ((with_reducible show SqT _ _ _ _); (first | assumption | exact hO.psq (by walk_at "mem") | exact hO.psq (by assumption) | exact SqT.of (by walk_at "at") | fail))
   | ((with_reducible show V.ref _ = V.ref _); (first | rfl | fail))
 | ((with_reducible show DGet _ _ _ _); (first | exact DGet.ki (by walk_at "at") (by assumption) | exact DGet.kiF (by walk_at "at") (by assumption) | fail))
 | ((with_reducible show DPut _ _ _ _ _); exact DPut.ki (by walk_at "at") (by assumption))
 | ((with_reducible show Rd _ _ _); (first | exact Or.inl (by walk_at "at") | exact Or.inr ⟨_, by walk_at "at"⟩ | fail))
 | ((with_reducible show (∃ _ : List (Key × V), _) ∨ _); refine Or.inl ⟨_, by walk_at "at", ?_⟩)
 | ((with_reducible show Dv _ _ _ _); focus walk_at "dv") | ((with_reducible show Dv1 _ _ _ _); focus walk_at "dv")
 | ((with_reducible show IsD _ _); exact Or.inl ⟨_, Or.inl (by walk_at "at")⟩)
 | ((with_reducible show V.int _ = kV _); exact kV_int)
 | ((with_reducible show Option.isSome _ = true); (first | exact isSome_ofV (by assumption) | assumption | fail))
 | ((with_reducible show SqL _ _ _ _ ∨ SqT _ _ _ _); (first | exact Or.inl (by assumption) | exact Or.inr (by assumption) | exact Or.inl (SqL.of (by walk_at "at")) | exact Or.inr (SqT.of (by walk_at "at")) | fail))
 | ((with_reducible show Dp _ _ _ _); (first | assumption | exact hO.dpL (by walk_at "mem") | exact .lst (SqL.of (by walk_at "at")) (hO.all (by walk_at "dv")) | exact hO.one (by walk_at "dv") | fail))
 | ((with_reducible show TruV _ _ _ _); (first | exact Or.inl ⟨_, SqL.of (by walk_at "at"), rfl⟩ | exact Or.inr (Or.inr ⟨_, by walk_at "at", rfl⟩) | exact Or.inr (Or.inl ⟨_, SqT.of (by walk_at "at"), rfl⟩) | fail))
 | ((with_reducible show RgOk _ _); exact RgOk.of_le (by omega) (by omega) (by omega) (by omega))
 | rfl | (with_reducible assumption) | apply And.intro | apply Exists.intro | refine iteT ?_ | refine iteF ?_
 | (walk_at "st"; (try walk_at "fl"))
 | ((with_reducible show ∀ _ : Addr, _ = none → _); (fail_if_success (with_reducible show ∀ _ : Addr, _ = none → ∃ _ : Nat → Nat → Hp → Prop, _)); intro p fp; walk_at "st")
 | (refine Or.inl ⟨SqL.of (by walk_at "at"), ?_⟩) | (refine Or.inr ⟨SqT.of (by walk_at "at"), ?_⟩) | exact Or.inl ⟨_, by walk_at "at", rfl⟩ | exact Or.inl ⟨rfl, _, SqL.of (by walk_at "at")⟩ | exact tyl_of (by walk_at "at") | exact Or.inl (SqL.of (by walk_at "at")) | exact Or.inr (SqT.of (by walk_at "at")) | exact Or.inl (by walk_at "at") | exact size_le (Nat.le_of_ble_eq_true rfl) | exact Nat.le_of_ble_eq_true rfl | exact True.intro | exact Or.inl rfl | exact Or.inr rfl | (show (_ : Prop); assumption) | (show (_ : Prop); omega) | (show (_ : Prop); dsimp only; omega) | exact mulw64 (by omega) (by omega) | exact mulw64 (by (try dsimp only); omega) (by (try dsimp only); omega) | fail))
local macro_rules | `(tactic| walk_at "go") => `(tactic| repeat walk_at "g1")

section
variable {P : Program} {w : World} {K : PySem.W.Frag} {mg : Str → Option Value} {base : Heap}
def sp_Lmeets (K : PySem.W.Frag) : Sp := fun vs H Q _ => ∃ (v u : V) (p : Str × Int) (r : List PyData) (R : List (Addr × Ob)) (P : List Pf), vs = [v, u] ∧ Own K H R P ∧ Dv1 K P v (pdP p) ∧ Dv1 K P u (.tuple r) ∧ okP p ∧ okR r ∧
  ∀ (H' : Hp) (P' : List Pf), Ps P P' → Own K H' R P' → Q (.bl (meetB p r)) H'
theorem ok_Lmeets (T : Txt w K mg) : FnOk P w K mg base CX0 1 T.f_Lmeets T.fd_Lmeets ["_law_point_here", "_law_row_here"] (sp_Lmeets K) := by
  refine T.F_Lmeets.ok sc_Lmeets (fun vs H Q E h => ?_) (fun cdv A outer s H vs Q E hr h => ?_)
  · obtain ⟨v, u, ⟨n, z⟩, r, R, P, rfl, hO, hd, hd2, hp, hr2, k⟩ := h; rfl
  · obtain ⟨v, u, ⟨n, z⟩, r, R, P, rfl, hO, hd, hd2, hp, hr2, k⟩ := h
    refine ⟨_, (pss_cons (ps_set (i := 2) sc_Lmeets.nd rfl (Or.inl rfl) (pe_dget (hu_of hr) (pe_dispK (ks := [.inr "at", .inr "register", .inr "place", .inr "cause"]) (pps_cons pe_str pe_int (pps_cons pe_str pe_int (pps_cons pe_str pe_int (pps_cons pe_str pe_int pps_nil)))) (by rfl) (by rfl) (fun z => by cases z) (by decide) (by decide)) (pe_ix ix_tup (pv 0) pe_int (fun _ _ => rfl)) (fun _ _ => rfl)))
        (pss_one (ps_ret (pe_cmpR op_eq (pe_ix ix_tup (pv 1) (pv 2) (fun _ _ => rfl)) (pe_ix ix_tup (pv 0) pe_int (fun _ _ => rfl)) (nomark _))))), ?_⟩
    clear hr
    obtain ⟨t, rfl, hO⟩ := hO.opn (ds := [.str n, .int z]) hd
    obtain ⟨q, rfl, hO⟩ := hO.opn (ds := r) (hd2.mono (Ps.skip Ps.refl)) hr2.1
    have hn4 := hp.2
    simp only [List.mem_cons, List.not_mem_nil, or_false] at hn4
    rcases hn4 with rfl | rfl | rfl | rfl
    · have hkk : kiOf "at" = some (0, 4095, 0) := by decide +kernel
      have hk : (("at" : Str), (0 : Int), (4095 : Int), (0 : Int)) ∈ kiL := by simp [kiL]
      have atc : atI (r.map fv) (0 : Int) = some (fv (r[(0 : Int).toNat]?.getD .none)) := at7 hr2.len (by decide)
      have sc := scal7 (z := z) hr2 hk
      walk_at "go"
      refine fun p hp => ?_
      refine ⟨upd_same, rfl, ?_⟩
      generalize hkv : mergeK [] (List.zip _ _) = kvs
      have hv : valV kvs (Sum.inr "at") = some (.int 0) := by subst hkv; rfl
      replace hO := (hO.new (o := .dK []) hp rfl).set (o := .dK kvs) .head rfl
      generalize upd (upd H p (.dK [])) p (.dK kvs) = H2 at hO ⊢
      have dg : DGet H2 p (fv (.str "at")) (some (.int 0)) := DGet.ks (hO.raw List.mem_cons_self) hv
      walk_at "go"
      refine qbl (k _ _ (Ps.skip (Ps.skip Ps.refl)) (hO.sub (Sb.skip (Sb.refl _)) Ps.refl)) ?_
      unfold meetB
      rw [hkk]
      rfl
    · have hkk : kiOf "register" = some (0, 7, 3) := by decide +kernel
      have hk : (("register" : Str), (0 : Int), (7 : Int), (3 : Int)) ∈ kiL := by simp [kiL]
      have atc : atI (r.map fv) (3 : Int) = some (fv (r[(3 : Int).toNat]?.getD .none)) := at7 hr2.len (by decide)
      have sc := scal7 (z := z) hr2 hk
      walk_at "go"
      refine fun p hp => ?_
      refine ⟨upd_same, rfl, ?_⟩
      generalize hkv : mergeK [] (List.zip _ _) = kvs
      have hv : valV kvs (Sum.inr "register") = some (.int 3) := by subst hkv; rfl
      replace hO := (hO.new (o := .dK []) hp rfl).set (o := .dK kvs) .head rfl
      generalize upd (upd H p (.dK [])) p (.dK kvs) = H2 at hO ⊢
      have dg : DGet H2 p (fv (.str "register")) (some (.int 3)) := DGet.ks (hO.raw List.mem_cons_self) hv
      walk_at "go"
      refine qbl (k _ _ (Ps.skip (Ps.skip Ps.refl)) (hO.sub (Sb.skip (Sb.refl _)) Ps.refl)) ?_
      unfold meetB
      rw [hkk]
      rfl
    · have hkk : kiOf "place" = some (0, 1023, 5) := by decide +kernel
      have hk : (("place" : Str), (0 : Int), (1023 : Int), (5 : Int)) ∈ kiL := by simp [kiL]
      have atc : atI (r.map fv) (5 : Int) = some (fv (r[(5 : Int).toNat]?.getD .none)) := at7 hr2.len (by decide)
      have sc := scal7 (z := z) hr2 hk
      walk_at "go"
      refine fun p hp => ?_
      refine ⟨upd_same, rfl, ?_⟩
      generalize hkv : mergeK [] (List.zip _ _) = kvs
      have hv : valV kvs (Sum.inr "place") = some (.int 5) := by subst hkv; rfl
      replace hO := (hO.new (o := .dK []) hp rfl).set (o := .dK kvs) .head rfl
      generalize upd (upd H p (.dK [])) p (.dK kvs) = H2 at hO ⊢
      have dg : DGet H2 p (fv (.str "place")) (some (.int 5)) := DGet.ks (hO.raw List.mem_cons_self) hv
      walk_at "go"
      refine qbl (k _ _ (Ps.skip (Ps.skip Ps.refl)) (hO.sub (Sb.skip (Sb.refl _)) Ps.refl)) ?_
      unfold meetB
      rw [hkk]
      rfl
    · have hkk : kiOf "cause" = some (1, 31, 2) := by decide +kernel
      have hk : (("cause" : Str), (1 : Int), (31 : Int), (2 : Int)) ∈ kiL := by simp [kiL]
      have atc : atI (r.map fv) (2 : Int) = some (fv (r[(2 : Int).toNat]?.getD .none)) := at7 hr2.len (by decide)
      have sc := scal7 (z := z) hr2 hk
      walk_at "go"
      refine fun p hp => ?_
      refine ⟨upd_same, rfl, ?_⟩
      generalize hkv : mergeK [] (List.zip _ _) = kvs
      have hv : valV kvs (Sum.inr "cause") = some (.int 2) := by subst hkv; rfl
      replace hO := (hO.new (o := .dK []) hp rfl).set (o := .dK kvs) .head rfl
      generalize upd (upd H p (.dK [])) p (.dK kvs) = H2 at hO ⊢
      have dg : DGet H2 p (fv (.str "cause")) (some (.int 2)) := DGet.ks (hO.raw List.mem_cons_self) hv
      walk_at "go"
      refine qbl (k _ _ (Ps.skip (Ps.skip Ps.refl)) (hO.sub (Sb.skip (Sb.refl _)) Ps.refl)) ?_
      unfold meetB
      rw [hkk]
      rfl
def sp_Lfirst (K : PySem.W.Frag) : Sp := sp_first_met K
theorem ok_Lfirst (T : Txt w K mg) : FnOk P w K mg base CX0 2 T.f_Lfirst T.fd_Lfirst ["_law_points", "_law_rows"] (sp_Lfirst K) := by
  have G_Lmeets := ok_Lmeets (P := P) (w := w) (base := base) T
  refine T.F_Lfirst.ok sc_Lfirst (fun vs H Q E h => ?_) (fun cdv A outer s H vs Q E hr h => ?_)
  · obtain ⟨a, b, xs, ys, ps, rs, R, P, rfl, hO, ha, hda, hb, hdb, hps, hrs, hz1, hz2, k⟩ := h; rfl
  · obtain ⟨a, b, xs, ys, ps, rs, R, P, rfl, hO, ha, hda, hb, hdb, hps, hrs, hz1, hz2, k⟩ := h
    refine ⟨_, (pss_cons (ps_forS PassesOwn.never rfl (pi_stop (pi_enumP rfl T.m_enumerate (pa_cons (pv 1) pa_nil))) (pg_tup rfl (pgs_cons (pg_name (i := 2) sc_Lfirst.nd rfl (Or.inl rfl)) (pgs_cons (pg_name (i := 3) sc_Lfirst.nd rfl (Or.inl rfl)) pgs_nil)))
          (pss_one (ps_forS PassesOwn.never rfl (pi_stop (pi_enumP rfl T.m_enumerate (pa_cons (pv 0) pa_nil))) (pg_tup rfl (pgs_cons (pg_name (i := 4) sc_Lfirst.nd rfl (Or.inl rfl)) (pgs_cons (pg_name (i := 5) sc_Lfirst.nd rfl (Or.inl rfl)) pgs_nil)))
            (pss_one (ps_if (pt_val (pe_call G_Lmeets (hr.mono (by decide)) rfl T.g_Lmeets T.F_Lmeets.kp T.b_Lmeets .nil pass0 (pa_cons (pv 5) (pa_cons (pv 3) pa_nil))))
              (pss_one (ps_ret (pe_tup (pa_cons (pv 2) (pa_cons (pv 4) pa_nil)))))
              pss_nil)))))
        (pss_one (ps_ret pe_non))), ?_⟩
    clear G_Lmeets
    clear hr
    have hl : xs.length = ps.length := by have := (hO.all hda).len; simpa using this
    have hlr : ys.length = rs.length := by have := (hO.all hdb).len; simpa using this
    have spo : Ps P P := Ps.refl
    refine Stop.mk ⟨_, rfl, b, ys, rfl, ?_⟩
    rcases hb with hq1 | hq1
    · refine Or.inl ⟨SqL.of (hO.raw hq1), ?_⟩
      walk_at "go"
      refine ⟨for_it (walk_enumS (xs := ys)) (fun i σ H' => Stop (∃ (t2 t3 t4 t5 : Option V) (P4 : List Pf), σ = [some (.ref a), some (.ref b), t2, t3, t4, t5] ∧ Ps P P4 ∧ Own K H' R P4 ∧ ∀ (i' : Nat) r', i' < i → rs[i']? = some r' → ∀ p ∈ ps, meetB p r' = false)) ⟨⟨none, none, none, none, _, rfl, spo, hO, fun i' r' h9 => absurd h9 (Nat.not_lt_zero _)⟩⟩ (fun i σ H' hi h => ?_) (fun i v σ H1 H' hi h hY => ?_) (fun σ H' h => ?_)⟩
      · obtain ⟨t2, t3, t4, t5, P4, rfl, sp, hO, hnoR⟩ := h.h
        exact SqL.of (hO.raw hq1)
      · clear hO
        obtain ⟨t2, t3, t4, t5, P4, rfl, sp, hO, hnoR⟩ := h.h
        clear h
        obtain ⟨T0, u, rv, rfl, hT, rfl, e1, e2⟩ := hY
        obtain rfl : V.int (0 + (i : Nat)) = u := Option.some.inj e1
        replace e2 : ys[i]? = some rv := e2
        obtain ⟨r, hr9⟩ : ∃ r, rs[i]? = some r := ⟨rs[i]'(by omega), List.getElem?_eq_getElem _⟩
        have hdr0 : Dv1 K P4 rv (.tuple r) := (hdb.mono sp).get e2 (by rw [List.getElem?_map, hr9]; rfl)
        have hokr := hrs r (List.mem_of_getElem? hr9)
        replace hO := hO.newT (vs := [.int (0 + (i : Nat)), rv]) hT rfl
        have hdr := hdr0.mono (P' := (Pf.tup T0 [.int (0 + (i : Nat)), rv]) :: P4) (Ps.skip Ps.refl)
        clear hdr0
        have hT9 := hO.ptup (List.Mem.head _)
        generalize hP5 : (Pf.tup T0 [V.int (0 + (i : Nat)), rv]) :: P4 = P9 at hO hdr
        have sp9 : Ps P4 P9 := hP5 ▸ Ps.skip Ps.refl
        clear hP5
        replace sp := sp.trans sp9
        clear sp9
        walk_at "go"
        refine Stop.mk ⟨_, rfl, a, xs, rfl, ?_⟩
        rcases ha with h2 | h2
        · refine Or.inl ⟨SqL.of (hO.raw h2), ?_⟩
          walk_at "go"
          refine ⟨for_it (walk_enumS (xs := xs)) (fun j σ H' => Stop (∃ (u1 u2 : Option V) (P5 : List Pf), σ = [some (.ref a), some (.ref b), some (.int (0 + (i : Nat))), some rv, u1, u2] ∧ Ps P P5 ∧ Ps P9 P5 ∧ Own K H' R P5 ∧ ∀ (j' : Nat) p', j' < j → ps[j']? = some p' → meetB p' r = false)) ⟨⟨t4, t5, _, rfl, sp, Ps.refl, hO, fun j' p' h9 => absurd h9 (Nat.not_lt_zero _)⟩⟩ (fun j σ H' hj h => ?_) (fun j v σ H1 H' hj h hY => ?_) (fun σ H' h => ?_)⟩
          · obtain ⟨u1, u2, P5, rfl, s5, s45, hO, hno⟩ := h.h
            exact SqL.of (hO.raw h2)
          · clear hO
            obtain ⟨u1, u2, P5, rfl, s5, s45, hO, hno⟩ := h.h
            clear h
            obtain ⟨T0, u, v', rfl, hT, rfl, e1, e2⟩ := hY
            obtain rfl : V.int (0 + (j : Nat)) = u := Option.some.inj e1
            replace e2 : xs[j]? = some v' := e2
            obtain ⟨pd, hp9⟩ : ∃ pd, ps[j]? = some pd := ⟨ps[j]'(by omega), List.getElem?_eq_getElem _⟩
            have hdp : Dv1 K P5 v' (pdP pd) := (hda.mono s5).get e2 (by rw [List.getElem?_map, hp9]; rfl)
            have hokp := hps pd (List.mem_of_getElem? hp9)
            replace hO := hO.newT (vs := [.int (0 + (j : Nat)), v']) hT rfl
            have hT8 := hO.ptup (List.Mem.head _)
            generalize hP6 : (Pf.tup T0 [V.int (0 + (j : Nat)), v']) :: P5 = P6 at hO
            have s56 : Ps P5 P6 := hP6 ▸ Ps.skip Ps.refl
            clear hP6
            replace hdp := hdp.mono s56
            have hdr9 := (hdr.mono s45).mono s56
            walk_at "go"
            intro H7 P7 s7 hO
            cases hmt : meetB pd r with
            | true =>
              walk_at "go"
              refine k (some (i, j)) _ _ _ ⟨r, pd, hr9, hp9, hmt, hnoR, hno⟩ ?_ ?_ hO
              · rw [Int.zero_add, Int.zero_add]
                walk_at "dv"
              · exact (s5.trans s56).trans (s7.trans (Ps.skip Ps.refl))
            | false =>
              walk_at "go"
              refine ⟨⟨_, _, P7, rfl, (s5.trans s56).trans s7, (s45.trans s56).trans s7, hO, fun j' p' h9 hp' => ?_⟩⟩
              rcases Nat.lt_or_ge j' j with z | z
              · exact hno j' p' z hp'
              · obtain rfl : j' = j := by omega
                obtain rfl := Option.some.inj (hp9.symm.trans hp')
                exact hmt
          · clear hO
            obtain ⟨u1, u2, P5, rfl, s5, s45, hO, hno⟩ := h.h
            clear h
            walk_at "go"
            refine ⟨⟨_, _, _, _, P5, rfl, s5, hO, fun i' r' h9 hr' => ?_⟩⟩
            rcases Nat.lt_or_ge i' i with z | z
            · exact hnoR i' r' z hr'
            · obtain rfl : i' = i := by omega
              obtain rfl := Option.some.inj (hr9.symm.trans hr')
              intro p hp
              obtain ⟨j', hj'⟩ := List.getElem?_of_mem hp
              have hj9 := (List.getElem?_eq_some_iff.mp hj').1
              exact hno j' p (by omega) hj'
        · refine Or.inr ⟨SqT.of (hO.ptup (sp _ h2)), ?_⟩
          walk_at "go"
          refine ⟨for_it (walk_enumT (xs := xs)) (fun j σ H' => Stop (∃ (u1 u2 : Option V) (P5 : List Pf), σ = [some (.ref a), some (.ref b), some (.int (0 + (i : Nat))), some rv, u1, u2] ∧ Ps P P5 ∧ Ps P9 P5 ∧ Own K H' R P5 ∧ ∀ (j' : Nat) p', j' < j → ps[j']? = some p' → meetB p' r = false)) ⟨⟨t4, t5, _, rfl, sp, Ps.refl, hO, fun j' p' h9 => absurd h9 (Nat.not_lt_zero _)⟩⟩ (fun j σ H' hj h => ?_) (fun j v σ H1 H' hj h hY => ?_) (fun σ H' h => ?_)⟩
          · obtain ⟨u1, u2, P5, rfl, s5, s45, hO, hno⟩ := h.h
            exact SqT.of (hO.ptup (s5 _ h2))
          · clear hO
            obtain ⟨u1, u2, P5, rfl, s5, s45, hO, hno⟩ := h.h
            clear h
            obtain ⟨T0, u, v', rfl, hT, rfl, e1, e2⟩ := hY
            obtain rfl : V.int (0 + (j : Nat)) = u := Option.some.inj e1
            replace e2 : xs[j]? = some v' := e2
            obtain ⟨pd, hp9⟩ : ∃ pd, ps[j]? = some pd := ⟨ps[j]'(by omega), List.getElem?_eq_getElem _⟩
            have hdp : Dv1 K P5 v' (pdP pd) := (hda.mono s5).get e2 (by rw [List.getElem?_map, hp9]; rfl)
            have hokp := hps pd (List.mem_of_getElem? hp9)
            replace hO := hO.newT (vs := [.int (0 + (j : Nat)), v']) hT rfl
            have hT8 := hO.ptup (List.Mem.head _)
            generalize hP6 : (Pf.tup T0 [V.int (0 + (j : Nat)), v']) :: P5 = P6 at hO
            have s56 : Ps P5 P6 := hP6 ▸ Ps.skip Ps.refl
            clear hP6
            replace hdp := hdp.mono s56
            have hdr9 := (hdr.mono s45).mono s56
            walk_at "go"
            intro H7 P7 s7 hO
            cases hmt : meetB pd r with
            | true =>
              walk_at "go"
              refine k (some (i, j)) _ _ _ ⟨r, pd, hr9, hp9, hmt, hnoR, hno⟩ ?_ ?_ hO
              · rw [Int.zero_add, Int.zero_add]
                walk_at "dv"
              · exact (s5.trans s56).trans (s7.trans (Ps.skip Ps.refl))
            | false =>
              walk_at "go"
              refine ⟨⟨_, _, P7, rfl, (s5.trans s56).trans s7, (s45.trans s56).trans s7, hO, fun j' p' h9 hp' => ?_⟩⟩
              rcases Nat.lt_or_ge j' j with z | z
              · exact hno j' p' z hp'
              · obtain rfl : j' = j := by omega
                obtain rfl := Option.some.inj (hp9.symm.trans hp')
                exact hmt
          · clear hO
            obtain ⟨u1, u2, P5, rfl, s5, s45, hO, hno⟩ := h.h
            clear h
            walk_at "go"
            refine ⟨⟨_, _, _, _, P5, rfl, s5, hO, fun i' r' h9 hr' => ?_⟩⟩
            rcases Nat.lt_or_ge i' i with z | z
            · exact hnoR i' r' z hr'
            · obtain rfl : i' = i := by omega
              obtain rfl := Option.some.inj (hr9.symm.trans hr')
              intro p hp
              obtain ⟨j', hj'⟩ := List.getElem?_of_mem hp
              have hj9 := (List.getElem?_eq_some_iff.mp hj').1
              exact hno j' p (by omega) hj'
      · clear hO
        obtain ⟨t2, t3, t4, t5, P4, rfl, sp, hO, hnoR⟩ := h.h
        clear h
        walk_at "go"
        refine k none _ _ P4 (fun r hr p hp => ?_) Dv1.non sp hO
        obtain ⟨i', hi'⟩ := List.getElem?_of_mem hr
        have hi9 := (List.getElem?_eq_some_iff.mp hi').1
        exact hnoR i' r (by omega) hi' p hp
    · refine Or.inr ⟨SqT.of (hO.ptup (spo _ hq1)), ?_⟩
      walk_at "go"
      refine ⟨for_it (walk_enumT (xs := ys)) (fun i σ H' => Stop (∃ (t2 t3 t4 t5 : Option V) (P4 : List Pf), σ = [some (.ref a), some (.ref b), t2, t3, t4, t5] ∧ Ps P P4 ∧ Own K H' R P4 ∧ ∀ (i' : Nat) r', i' < i → rs[i']? = some r' → ∀ p ∈ ps, meetB p r' = false)) ⟨⟨none, none, none, none, _, rfl, spo, hO, fun i' r' h9 => absurd h9 (Nat.not_lt_zero _)⟩⟩ (fun i σ H' hi h => ?_) (fun i v σ H1 H' hi h hY => ?_) (fun σ H' h => ?_)⟩
      · obtain ⟨t2, t3, t4, t5, P4, rfl, sp, hO, hnoR⟩ := h.h
        exact SqT.of (hO.ptup (sp _ hq1))
      · clear hO
        obtain ⟨t2, t3, t4, t5, P4, rfl, sp, hO, hnoR⟩ := h.h
        clear h
        obtain ⟨T0, u, rv, rfl, hT, rfl, e1, e2⟩ := hY
        obtain rfl : V.int (0 + (i : Nat)) = u := Option.some.inj e1
        replace e2 : ys[i]? = some rv := e2
        obtain ⟨r, hr9⟩ : ∃ r, rs[i]? = some r := ⟨rs[i]'(by omega), List.getElem?_eq_getElem _⟩
        have hdr0 : Dv1 K P4 rv (.tuple r) := (hdb.mono sp).get e2 (by rw [List.getElem?_map, hr9]; rfl)
        have hokr := hrs r (List.mem_of_getElem? hr9)
        replace hO := hO.newT (vs := [.int (0 + (i : Nat)), rv]) hT rfl
        have hdr := hdr0.mono (P' := (Pf.tup T0 [.int (0 + (i : Nat)), rv]) :: P4) (Ps.skip Ps.refl)
        clear hdr0
        have hT9 := hO.ptup (List.Mem.head _)
        generalize hP5 : (Pf.tup T0 [V.int (0 + (i : Nat)), rv]) :: P4 = P9 at hO hdr
        have sp9 : Ps P4 P9 := hP5 ▸ Ps.skip Ps.refl
        clear hP5
        replace sp := sp.trans sp9
        clear sp9
        walk_at "go"
        refine Stop.mk ⟨_, rfl, a, xs, rfl, ?_⟩
        rcases ha with h2 | h2
        · refine Or.inl ⟨SqL.of (hO.raw h2), ?_⟩
          walk_at "go"
          refine ⟨for_it (walk_enumS (xs := xs)) (fun j σ H' => Stop (∃ (u1 u2 : Option V) (P5 : List Pf), σ = [some (.ref a), some (.ref b), some (.int (0 + (i : Nat))), some rv, u1, u2] ∧ Ps P P5 ∧ Ps P9 P5 ∧ Own K H' R P5 ∧ ∀ (j' : Nat) p', j' < j → ps[j']? = some p' → meetB p' r = false)) ⟨⟨t4, t5, _, rfl, sp, Ps.refl, hO, fun j' p' h9 => absurd h9 (Nat.not_lt_zero _)⟩⟩ (fun j σ H' hj h => ?_) (fun j v σ H1 H' hj h hY => ?_) (fun σ H' h => ?_)⟩
          · obtain ⟨u1, u2, P5, rfl, s5, s45, hO, hno⟩ := h.h
            exact SqL.of (hO.raw h2)
          · clear hO
            obtain ⟨u1, u2, P5, rfl, s5, s45, hO, hno⟩ := h.h
            clear h
            obtain ⟨T0, u, v', rfl, hT, rfl, e1, e2⟩ := hY
            obtain rfl : V.int (0 + (j : Nat)) = u := Option.some.inj e1
            replace e2 : xs[j]? = some v' := e2
            obtain ⟨pd, hp9⟩ : ∃ pd, ps[j]? = some pd := ⟨ps[j]'(by omega), List.getElem?_eq_getElem _⟩
            have hdp : Dv1 K P5 v' (pdP pd) := (hda.mono s5).get e2 (by rw [List.getElem?_map, hp9]; rfl)
            have hokp := hps pd (List.mem_of_getElem? hp9)
            replace hO := hO.newT (vs := [.int (0 + (j : Nat)), v']) hT rfl
            have hT8 := hO.ptup (List.Mem.head _)
            generalize hP6 : (Pf.tup T0 [V.int (0 + (j : Nat)), v']) :: P5 = P6 at hO
            have s56 : Ps P5 P6 := hP6 ▸ Ps.skip Ps.refl
            clear hP6
            replace hdp := hdp.mono s56
            have hdr9 := (hdr.mono s45).mono s56
            walk_at "go"
            intro H7 P7 s7 hO
            cases hmt : meetB pd r with
            | true =>
              walk_at "go"
              refine k (some (i, j)) _ _ _ ⟨r, pd, hr9, hp9, hmt, hnoR, hno⟩ ?_ ?_ hO
              · rw [Int.zero_add, Int.zero_add]
                walk_at "dv"
              · exact (s5.trans s56).trans (s7.trans (Ps.skip Ps.refl))
            | false =>
              walk_at "go"
              refine ⟨⟨_, _, P7, rfl, (s5.trans s56).trans s7, (s45.trans s56).trans s7, hO, fun j' p' h9 hp' => ?_⟩⟩
              rcases Nat.lt_or_ge j' j with z | z
              · exact hno j' p' z hp'
              · obtain rfl : j' = j := by omega
                obtain rfl := Option.some.inj (hp9.symm.trans hp')
                exact hmt
          · clear hO
            obtain ⟨u1, u2, P5, rfl, s5, s45, hO, hno⟩ := h.h
            clear h
            walk_at "go"
            refine ⟨⟨_, _, _, _, P5, rfl, s5, hO, fun i' r' h9 hr' => ?_⟩⟩
            rcases Nat.lt_or_ge i' i with z | z
            · exact hnoR i' r' z hr'
            · obtain rfl : i' = i := by omega
              obtain rfl := Option.some.inj (hr9.symm.trans hr')
              intro p hp
              obtain ⟨j', hj'⟩ := List.getElem?_of_mem hp
              have hj9 := (List.getElem?_eq_some_iff.mp hj').1
              exact hno j' p (by omega) hj'
        · refine Or.inr ⟨SqT.of (hO.ptup (sp _ h2)), ?_⟩
          walk_at "go"
          refine ⟨for_it (walk_enumT (xs := xs)) (fun j σ H' => Stop (∃ (u1 u2 : Option V) (P5 : List Pf), σ = [some (.ref a), some (.ref b), some (.int (0 + (i : Nat))), some rv, u1, u2] ∧ Ps P P5 ∧ Ps P9 P5 ∧ Own K H' R P5 ∧ ∀ (j' : Nat) p', j' < j → ps[j']? = some p' → meetB p' r = false)) ⟨⟨t4, t5, _, rfl, sp, Ps.refl, hO, fun j' p' h9 => absurd h9 (Nat.not_lt_zero _)⟩⟩ (fun j σ H' hj h => ?_) (fun j v σ H1 H' hj h hY => ?_) (fun σ H' h => ?_)⟩
          · obtain ⟨u1, u2, P5, rfl, s5, s45, hO, hno⟩ := h.h
            exact SqT.of (hO.ptup (s5 _ h2))
          · clear hO
            obtain ⟨u1, u2, P5, rfl, s5, s45, hO, hno⟩ := h.h
            clear h
            obtain ⟨T0, u, v', rfl, hT, rfl, e1, e2⟩ := hY
            obtain rfl : V.int (0 + (j : Nat)) = u := Option.some.inj e1
            replace e2 : xs[j]? = some v' := e2
            obtain ⟨pd, hp9⟩ : ∃ pd, ps[j]? = some pd := ⟨ps[j]'(by omega), List.getElem?_eq_getElem _⟩
            have hdp : Dv1 K P5 v' (pdP pd) := (hda.mono s5).get e2 (by rw [List.getElem?_map, hp9]; rfl)
            have hokp := hps pd (List.mem_of_getElem? hp9)
            replace hO := hO.newT (vs := [.int (0 + (j : Nat)), v']) hT rfl
            have hT8 := hO.ptup (List.Mem.head _)
            generalize hP6 : (Pf.tup T0 [V.int (0 + (j : Nat)), v']) :: P5 = P6 at hO
            have s56 : Ps P5 P6 := hP6 ▸ Ps.skip Ps.refl
            clear hP6
            replace hdp := hdp.mono s56
            have hdr9 := (hdr.mono s45).mono s56
            walk_at "go"
            intro H7 P7 s7 hO
            cases hmt : meetB pd r with
            | true =>
              walk_at "go"
              refine k (some (i, j)) _ _ _ ⟨r, pd, hr9, hp9, hmt, hnoR, hno⟩ ?_ ?_ hO
              · rw [Int.zero_add, Int.zero_add]
                walk_at "dv"
              · exact (s5.trans s56).trans (s7.trans (Ps.skip Ps.refl))
            | false =>
              walk_at "go"
              refine ⟨⟨_, _, P7, rfl, (s5.trans s56).trans s7, (s45.trans s56).trans s7, hO, fun j' p' h9 hp' => ?_⟩⟩
              rcases Nat.lt_or_ge j' j with z | z
              · exact hno j' p' z hp'
              · obtain rfl : j' = j := by omega
                obtain rfl := Option.some.inj (hp9.symm.trans hp')
                exact hmt
          · clear hO
            obtain ⟨u1, u2, P5, rfl, s5, s45, hO, hno⟩ := h.h
            clear h
            walk_at "go"
            refine ⟨⟨_, _, _, _, P5, rfl, s5, hO, fun i' r' h9 hr' => ?_⟩⟩
            rcases Nat.lt_or_ge i' i with z | z
            · exact hnoR i' r' z hr'
            · obtain rfl : i' = i := by omega
              obtain rfl := Option.some.inj (hr9.symm.trans hr')
              intro p hp
              obtain ⟨j', hj'⟩ := List.getElem?_of_mem hp
              have hj9 := (List.getElem?_eq_some_iff.mp hj').1
              exact hno j' p (by omega) hj'
      · clear hO
        obtain ⟨t2, t3, t4, t5, P4, rfl, sp, hO, hnoR⟩ := h.h
        clear h
        walk_at "go"
        refine k none _ _ P4 (fun r hr p hp => ?_) Dv1.non sp hO
        obtain ⟨i', hi'⟩ := List.getElem?_of_mem hr
        have hi9 := (List.getElem?_eq_some_iff.mp hi').1
        exact hnoR i' r (by omega) hi' p hp
end
end K91

set_option Elab.async false
set_option linter.all false
set_option maxRecDepth 100000
set_option maxHeartbeats 8000000

namespace K91
open PySem PySem.Spec PyProof.Rows L2 Hx 
local macro_rules | `(tactic| walk_at "sm") => `(tactic| repeat' (first | assumption | apply Hx.Same.upd | exact L2.Same.refl _ | apply same_trans'))
local macro_rules | `(tactic| walk_at "hp") => `(tactic| repeat' (first | assumption | exact upd_same | apply old_upd | apply same_at))
local macro_rules | `(tactic| walk_at "rd") => `(tactic| repeat' (first | rfl | apply Exists.intro | apply And.intro | refine iteT ?_ | refine iteF ?_ | exact upd_same | exact SqL.of (by assumption) | exact SqL.of upd_same | exact SqT.of upd_same | exact SqT.of (by assumption) | ((with_reducible show (_ : Int) < _); omega) | ((with_reducible show (_ : Int) ≤ _); omega) | (show (_ : Prop); assumption) | exact Or.inl ⟨_, by assumption, rfl⟩ | exact Or.inl ⟨rfl, _, SqL.of (by assumption)⟩ | exact Or.inl ⟨rfl, _, SqL.of upd_same⟩ | apply old_upd | apply Hx.SqL.new | apply tyl_new | apply Pot.new | exact same_at (by assumption) (by assumption) | exact Or.inl (SqL.of (by assumption)) | exact Or.inl (by assumption) | exact Or.inl (SqL.of upd_same) | exact size_le (Nat.le_of_ble_eq_true rfl) | exact Nat.le_of_ble_eq_true rfl | exact True.intro | exact Or.inl rfl | exact Or.inr rfl | (show (_ : Prop); omega) | (show (_ : Prop); dsimp only; omega) | exact mulw64 (by omega) (by omega) | exact mulw64 (by (try dsimp only); omega) (by (try dsimp only); omega)))
local macro_rules | `(tactic| walk_at "mem") => `(tactic| ((repeat (first | exact List.Mem.head _ | apply List.Mem.tail | fail)); done))
local macro_rules | `(tactic| walk_at "setat") => `(tactic| ((repeat (first | (with_reducible exact At.head) | (with_reducible apply At.tail) | (with_reducible apply At.app) | fail)); done))
set_option hygiene false in
local macro_rules | `(tactic| walk_at "dv") => `(tactic| ((repeat' (first | exact Dv.nil | exact Dv.of (by walk_at "mem") | exact Dv.ints _ | exact Dv1.of (by walk_at "mem") | exact Dv1.int _ | exact Dv1.non | exact Dv1.bl _ | exact Dv1.str _ | (with_reducible apply Dv.cons) | refine Dv1.tup (by walk_at "mem") ?_ | refine Dv1.lst (by walk_at "mem") ?_ | (with_reducible apply Dv.app) | fail)); done))
local macro_rules | `(tactic| walk_at "ft") => `(tactic| (first | (with_reducible exact Ft.refl) | ((with_reducible apply Ft.toL); focus walk_at "dv") | ((with_reducible apply Ft.toS); focus assumption) | (with_reducible apply Ft.lst) | (with_reducible apply Ft.Le) | (with_reducible apply Ft.dK) | (with_reducible apply Ft.De) | (with_reducible apply Ft.ins) | (with_reducible apply Ft.toL) | (with_reducible apply Ft.toS) | (with_reducible apply Ft.toD) | fail))
local macro_rules | `(tactic| walk_at "sbL") => `(tactic| repeat' (first | (with_reducible exact Sb.refl _) | exact Sb.nil | (with_reducible apply Sb.cons) | (with_reducible apply Sb.app) | (with_reducible exact Pk.one) | (with_reducible exact Pk.here) | (with_reducible exact Pk.all) | (with_reducible apply Pk.skip1) | (with_reducible apply Pk.skipB) | (with_reducible apply Sb.skip) | (with_reducible apply Sb.skipB) | ((with_reducible show Ft _ _ _ _); walk_at "ft") | ((with_reducible show (_ : List _) = _); (first | rfl | (simp [List.map_set, List.map_append]; done) | fail)) | fail))
local macro_rules | `(tactic| walk_at "sb") => `(tactic| ((walk_at "sbL"); done))
local macro_rules | `(tactic| walk_at "ps") => `(tactic| ((repeat' (first | (with_reducible exact Ps.refl) | exact Ps.nil | (with_reducible apply Ps.cons) | exact List.Mem.head _ | apply List.Mem.tail | (with_reducible apply Ps.skip) | fail)); done))
set_option hygiene false in
local macro_rules | `(tactic| walk_at "at") => `(tactic| first | assumption | exact Own.raw hO (by walk_at "mem") | exact Own.ptup hO (by walk_at "mem") | exact Own.plst hO (by walk_at "mem") | fail)
set_option hygiene false in
local macro_rules | `(tactic| walk_at "st") => `(tactic| (rw [upd_mkO hO]; generalize e : updX _ _ _ = H1; (first | ((apply Own.cset hO e); (focus walk_at "setat"); (try clear hO e); intro hO) | ((apply Own.cnewT hO e); (focus assumption); (try clear hO e); intro hO) | ((apply Own.cnew hO e); (focus assumption); (try clear hO e); intro hO) | fail)))
set_option hygiene false in
local macro_rules | `(tactic| walk_at "mk") => `(tactic| (intro p1 p2 f1 f2 f3; rw [upd_mkO hO]; generalize e : upd (updX _ _ _) _ _ = H1; apply Own.cmake hO f1 f2 f3 e; (try clear hO e); intro hO))
set_option hygiene false in
local macro_rules | `(tactic| walk_at "own") => `(tactic| (first | ((apply Own.sub hO); (focus walk_at "sb"); (focus walk_at "ps")) | ((apply Own.sub hF); (focus walk_at "sb"); (focus walk_at "ps")) | fail))
set_option hygiene false in
local macro_rules | `(tactic| walk_at "fin") => `(tactic| (refine Own.sub hO ?_ (by walk_at "ps"); walk_at "sbL"))
set_option hygiene false in
local macro_rules | `(tactic| walk_at "g1") => `(tactic| (first
 | ((with_reducible show (_ : Option HO) = _); walk_at "at")
 | ((with_reducible show (_ : Int) < _); omega) | ((with_reducible show (_ : Int) ≤ _); omega)
 | ((with_reducible show (_ : Nat) < _); (first | assumption | exact Nat.le_of_ble_eq_true rfl | exact size_lt (Nat.le_of_ble_eq_true rfl) | omega | (simp; done) | (simp; omega) | fail))
 | ((with_reducible show (_ : Nat) ≤ _); (first | assumption | exact Nat.le_of_ble_eq_true rfl | exact size_le (Nat.le_of_ble_eq_true rfl) | omega | (simp; done) | (simp; omega) | fail))
 | ((with_reducible show (_ : Pf) ∈ _); (first | assumption | (focus walk_at "mem") | ((repeat (with_reducible apply List.mem_cons_of_mem)); assumption) | fail))
 | ((with_reducible show Own _ _ _ _); (first | walk_at "own" | (walk_at "st"; walk_at "own") | fail))
 | ((with_reducible show SqL _ _ _ _); (first | assumption | exact SqL.of (by walk_at "at") | fail))
 | ((with_reducible show SqT _ _ _ _); (first | assumption | exact hO.psq (by walk_at "mem") | exact hO.psq (by assumption) | exact SqT.of (by walk_at "at") | fail))
   | ((with_reducible show V.ref _ = V.ref _); (first | rfl | fail))
 | ((with_reducible show DGet _ _ _ _); (first | exact DGet.ki (by walk_at "at") (by assumption) | exact DGet.kiF (by walk_at "at") (by assumption) | fail))
 | ((with_reducible show DPut _ _ _ _ _); exact DPut.ki (by walk_at "at") (by assumption))
 | ((with_reducible show Rd _ _ _); (first | exact Or.inl (by walk_at "at") | exact Or.inr ⟨_, by walk_at "at"⟩ | fail))
 | ((with_reducible show (∃ _ : List (Key × V), _) ∨ _); refine Or.inl ⟨_, by walk_at "at", ?_⟩)
 | ((with_reducible show Dv _ _ _ _); focus walk_at "dv") | ((with_reducible show Dv1 _ _ _ _); focus walk_at "dv")
 | ((with_reducible show IsD _ _); exact Or.inl ⟨_, Or.inl (by walk_at "at")⟩)
 | ((with_reducible show V.int _ = kV _); exact kV_int)
 | ((with_reducible show Option.isSome _ = true); (first | exact isSome_ofV (by assumption) | assumption | fail))
 | ((with_reducible show SqL _ _ _ _ ∨ SqT _ _ _ _); (first | exact Or.inl (by assumption) | exact Or.inr (by assumption) | exact Or.inl (SqL.of (by walk_at "at")) | exact Or.inr (SqT.of (by walk_at "at")) | fail))
 | ((with_reducible show Dp _ _ _ _); (first | assumption | exact hO.dpL (by walk_at "mem") | exact .lst (SqL.of (by walk_at "at")) (hO.all (by walk_at "dv")) | exact hO.one (by walk_at "dv") | fail))
 | ((with_reducible show TruV _ _ _ _); (first | exact Or.inl ⟨_, SqL.of (by walk_at "at"), rfl⟩ | exact Or.inr (Or.inr ⟨_, by walk_at "at", rfl⟩) | exact Or.inr (Or.inl ⟨_, SqT.of (by walk_at "at"), rfl⟩) | fail))
 | ((with_reducible show RgOk _ _); exact RgOk.of_le (by omega) (by omega) (by omega) (by omega))
 | rfl | (with_reducible assumption) | apply And.intro | apply Exists.intro | refine iteT ?_ | refine iteF ?_
 | (walk_at "st"; (try walk_at "fl"))
 | ((with_reducible show ∀ _ : Addr, _ = none → _); (fail_if_success (with_reducible show ∀ _ : Addr, _ = none → ∃ _ : Nat → Nat → Hp → Prop, _)); intro p fp; walk_at "st")
 | (refine Or.inl ⟨SqL.of (by walk_at "at"), ?_⟩) | (refine Or.inr ⟨SqT.of (by walk_at "at"), ?_⟩) | exact Or.inl ⟨_, by walk_at "at", rfl⟩ | exact Or.inl ⟨rfl, _, SqL.of (by walk_at "at")⟩ | exact tyl_of (by walk_at "at") | exact Or.inl (SqL.of (by walk_at "at")) | exact Or.inr (SqT.of (by walk_at "at")) | exact Or.inl (by walk_at "at") | exact size_le (Nat.le_of_ble_eq_true rfl) | exact Nat.le_of_ble_eq_true rfl | exact True.intro | exact Or.inl rfl | exact Or.inr rfl | (show (_ : Prop); assumption) | (show (_ : Prop); omega) | (show (_ : Prop); dsimp only; omega) | exact mulw64 (by omega) (by omega) | exact mulw64 (by (try dsimp only); omega) (by (try dsimp only); omega) | fail))
local macro_rules | `(tactic| walk_at "go") => `(tactic| repeat walk_at "g1")

section
variable {P : Program} {w : World} {K : PySem.W.Frag} {mg : Str → Option Value} {base : Heap}
theorem okP_of {n : Str} {z : Int} (hn : n ∈ (["at", "register", "place", "cause"] : List Str)) (h1 : 1 ≤ z) (h2 : z ≤ 4) : okP (n, z) := by
  refine ⟨?_, hn⟩
  have h0 : ∀ t ∈ kiL, t.2.1 ≤ 1 ∧ 4 ≤ t.2.2.1 := by decide
  obtain ⟨a, b, c, hk, hkk⟩ := ki_cases hn
  have h9 := h0 _ hk
  rw [ptB_at hkk]
  simp only [btwB, decide_eq_true_eq]
  simp only at h9
  omega
def sp_Lpoint (K : PySem.W.Frag) : Sp := fun vs H Q _ => ∃ (a : Addr) (R : List (Addr × Ob)) (P : List Pf), vs = [.ref a] ∧ Own K H (pt a ++ R) P ∧
  ∀ (p : Str × Int) (v : V) (H' : Hp) (P' : List Pf), okP p → p.2 ≤ 4 → Dv1 K P' v (pdP p) → Ps P P' → Own K H' (pt a ++ R) P' → Q v H'
theorem ok_Lpoint (T : Txt w K mg) : FnOk P w K mg base CX0 3 T.f_Lpoint T.fd_Lpoint ["_law_pot_here"] (sp_Lpoint K) := by
  have G_Lpick := ok_Lpick (P := P) (w := w) (base := base) T
  have G_Ldraw := ok_Ldraw (P := P) (w := w) (base := base) T
  refine T.F_Lpoint.ok sc_Lpoint (fun vs H Q E h => ?_) (fun cdv A outer s H vs Q E hr h => ?_)
  · obtain ⟨a, R, P, rfl, hO, k⟩ := h; rfl
  · obtain ⟨a, R, P, rfl, hO, k⟩ := h
    refine ⟨_, (pss_cons (ps_set (i := 1) sc_Lpoint.nd rfl (Or.inl rfl) (pe_call G_Lpick (hr.mono (by decide)) rfl T.g_Lpick T.F_Lpick.kp T.b_Lpick .nil pass0 (pa_cons (pv 0) (pa_cons (pe_lst (pa_cons pe_str (pa_cons pe_str (pa_cons pe_str (pa_cons pe_str pa_nil))))) pa_nil))))
        (pss_one (ps_ret (pe_tup (pa_cons (pv 1) (pa_cons (pe_op op_add pe_int (pe_call G_Ldraw (hr.mono (by decide)) rfl T.g_Ldraw T.F_Ldraw.kp T.b_Ldraw .nil pass0 (pa_cons (pv 0) (pa_cons pe_int pa_nil)))) pa_nil)))))), ?_⟩
    clear G_Lpick G_Ldraw
    clear hr
    simp only [pt, List.cons_append, List.nil_append] at hO k
    walk_at "go"
    any_goals (first | exact (hO.sub (by simp only [pt, List.cons_append, List.nil_append]; walk_at "sb") Ps.refl : Own K H1 (pt a ++ ((p, .raw (.lst [.str "at", .str "register", .str "place", .str "cause"])) :: R)) P) | skip)
    refine ⟨Nat.succ_pos _, by show (4 : Nat) ≤ 1000; decide, fun j v9 H5 hj hO => ?_⟩
    obtain ⟨n, rfl, hn⟩ : ∃ n : Str, v9 = .str n ∧ n ∈ (["at", "register", "place", "cause"] : List Str) := by
      have hv := List.mem_of_getElem? hj
      simp only [List.mem_cons, List.not_mem_nil, or_false] at hv
      rcases hv with h | h | h | h <;> exact ⟨_, h, by simp⟩
    simp only [pt, List.cons_append, List.nil_append] at hO
    walk_at "go"
    intro d H6 d0 d1 hO
    simp only [pt, List.cons_append, List.nil_append] at hO
    walk_at "go"
    have hO2 := hO.sub (L' := pt a ++ R) (by simp only [pt, List.cons_append, List.nil_append]; walk_at "sb") Ps.refl
    refine k (n, 1 + d) _ _ _ (okP_of hn (by omega) (by omega)) (by show 1 + d ≤ 4; omega) ?_ ?_ hO2
    · exact Dv1.tup (List.Mem.head _) (Dv.cons (Dv1.str _) (Dv.cons (Dv1.int _) Dv.nil))
    · exact Ps.skip Ps.refl
end
end K91

set_option Elab.async false
set_option linter.all false
set_option maxRecDepth 100000
set_option maxHeartbeats 8000000

namespace K91
open PySem PySem.Spec PyProof.Rows L2 Hx 
local macro_rules | `(tactic| walk_at "sm") => `(tactic| repeat' (first | assumption | apply Hx.Same.upd | exact L2.Same.refl _ | apply same_trans'))
local macro_rules | `(tactic| walk_at "hp") => `(tactic| repeat' (first | assumption | exact upd_same | apply old_upd | apply same_at))
local macro_rules | `(tactic| walk_at "rd") => `(tactic| repeat' (first | rfl | apply Exists.intro | apply And.intro | refine iteT ?_ | refine iteF ?_ | exact upd_same | exact SqL.of (by assumption) | exact SqL.of upd_same | exact SqT.of upd_same | exact SqT.of (by assumption) | ((with_reducible show (_ : Int) < _); omega) | ((with_reducible show (_ : Int) ≤ _); omega) | (show (_ : Prop); assumption) | exact Or.inl ⟨_, by assumption, rfl⟩ | exact Or.inl ⟨rfl, _, SqL.of (by assumption)⟩ | exact Or.inl ⟨rfl, _, SqL.of upd_same⟩ | apply old_upd | apply Hx.SqL.new | apply tyl_new | apply Pot.new | exact same_at (by assumption) (by assumption) | exact Or.inl (SqL.of (by assumption)) | exact Or.inl (by assumption) | exact Or.inl (SqL.of upd_same) | exact size_le (Nat.le_of_ble_eq_true rfl) | exact Nat.le_of_ble_eq_true rfl | exact True.intro | exact Or.inl rfl | exact Or.inr rfl | (show (_ : Prop); omega) | (show (_ : Prop); dsimp only; omega) | exact mulw64 (by omega) (by omega) | exact mulw64 (by (try dsimp only); omega) (by (try dsimp only); omega)))
local macro_rules | `(tactic| walk_at "mem") => `(tactic| ((repeat (first | exact List.Mem.head _ | apply List.Mem.tail | fail)); done))
local macro_rules | `(tactic| walk_at "setat") => `(tactic| ((repeat (first | (with_reducible exact At.head) | (with_reducible apply At.tail) | (with_reducible apply At.app) | fail)); done))
set_option hygiene false in
local macro_rules | `(tactic| walk_at "dv") => `(tactic| ((repeat' (first | exact Dv.nil | exact Dv.of (by walk_at "mem") | exact Dv.ints _ | exact Dv1.of (by walk_at "mem") | exact Dv1.int _ | exact Dv1.non | exact Dv1.bl _ | exact Dv1.str _ | (with_reducible apply Dv.cons) | refine Dv1.tup (by walk_at "mem") ?_ | refine Dv1.lst (by walk_at "mem") ?_ | (with_reducible apply Dv.app) | fail)); done))
local macro_rules | `(tactic| walk_at "ft") => `(tactic| (first | (with_reducible exact Ft.refl) | ((with_reducible apply Ft.toL); focus walk_at "dv") | ((with_reducible apply Ft.toS); focus assumption) | (with_reducible apply Ft.lst) | (with_reducible apply Ft.Le) | (with_reducible apply Ft.dK) | (with_reducible apply Ft.De) | (with_reducible apply Ft.ins) | (with_reducible apply Ft.toL) | (with_reducible apply Ft.toS) | (with_reducible apply Ft.toD) | fail))
local macro_rules | `(tactic| walk_at "sbL") => `(tactic| repeat' (first | (with_reducible exact Sb.refl _) | exact Sb.nil | (with_reducible apply Sb.cons) | (with_reducible apply Sb.app) | (with_reducible exact Pk.one) | (with_reducible exact Pk.here) | (with_reducible exact Pk.all) | (with_reducible apply Pk.skip1) | (with_reducible apply Pk.skipB) | (with_reducible apply Sb.skip) | (with_reducible apply Sb.skipB) | ((with_reducible show Ft _ _ _ _); walk_at "ft") | ((with_reducible show (_ : List _) = _); (first | rfl | (simp [List.map_set, List.map_append]; done) | fail)) | fail))
local macro_rules | `(tactic| walk_at "sb") => `(tactic| ((walk_at "sbL"); done))
local macro_rules | `(tactic| walk_at "ps") => `(tactic| ((repeat' (first | (with_reducible exact Ps.refl) | exact Ps.nil | (with_reducible apply Ps.cons) | exact List.Mem.head _ | apply List.Mem.tail | (with_reducible apply Ps.skip) | fail)); done))
set_option hygiene false in
local macro_rules | `(tactic| walk_at "at") => `(tactic| first | assumption | exact Own.raw hO (by walk_at "mem") | exact Own.ptup hO (by walk_at "mem") | exact Own.plst hO (by walk_at "mem") | fail)
set_option hygiene false in
local macro_rules | `(tactic| walk_at "st") => `(tactic| (rw [upd_mkO hO]; generalize e : updX _ _ _ = H1; (first | ((apply Own.cset hO e); (focus walk_at "setat"); (try clear hO e); intro hO) | ((apply Own.cnewT hO e); (focus assumption); (try clear hO e); intro hO) | ((apply Own.cnew hO e); (focus assumption); (try clear hO e); intro hO) | fail)))
set_option hygiene false in
local macro_rules | `(tactic| walk_at "mk") => `(tactic| (intro p1 p2 f1 f2 f3; rw [upd_mkO hO]; generalize e : upd (updX _ _ _) _ _ = H1; apply Own.cmake hO f1 f2 f3 e; (try clear hO e); intro hO))
set_option hygiene false in
local macro_rules | `(tactic| walk_at "own") => `(tactic| (first | ((apply Own.sub hO); (focus walk_at "sb"); (focus walk_at "ps")) | ((apply Own.sub hF); (focus walk_at "sb"); (focus walk_at "ps")) | fail))
set_option hygiene false in
local macro_rules | `(tactic| walk_at "fin") => `(tactic| (refine Own.sub hO ?_ (by walk_at "ps"); walk_at "sbL"))
set_option hygiene false in
local macro_rules | `(tactic| walk_at "g1") => `(tactic| (first
 | ((with_reducible show (_ : Option HO) = _); walk_at "at")
 | ((with_reducible show (_ : Int) < _); omega) | ((with_reducible show (_ : Int) ≤ _); omega)
 | ((with_reducible show (_ : Nat) < _); (first | assumption | exact Nat.le_of_ble_eq_true rfl | exact size_lt (Nat.le_of_ble_eq_true rfl) | omega | (simp; done) | (simp; omega) | fail))
 | ((with_reducible show (_ : Nat) ≤ _); (first | assumption | exact Nat.le_of_ble_eq_true rfl | exact size_le (Nat.le_of_ble_eq_true rfl) | omega | (simp; done) | (simp; omega) | fail))
 | ((with_reducible show (_ : Pf) ∈ _); (first | assumption | (focus walk_at "mem") | ((repeat (with_reducible apply List.mem_cons_of_mem)); assumption) | fail))
 | ((with_reducible show Own _ _ _ _); (first | walk_at "own" | (walk_at "st"; walk_at "own") | fail))
 | ((with_reducible show SqL _ _ _ _); (first | assumption | exact SqL.of (by walk_at "at") | fail))
 | ((with_reducible show SqT _ _ _ _); (first | assumption | exact hO.psq (by walk_at "mem") | exact hO.psq (by assumption) | exact SqT.of (by walk_at "at") | fail))
   | ((with_reducible show V.ref _ = V.ref _); (first | rfl | fail))
 | ((with_reducible show DGet _ _ _ _); (first | exact DGet.ki (by walk_at "at") (by assumption) | exact DGet.kiF (by walk_at "at") (by assumption) | fail))
 | ((with_reducible show DPut _ _ _ _ _); exact DPut.ki (by walk_at "at") (by assumption))
 | ((with_reducible show Rd _ _ _); (first | exact Or.inl (by walk_at "at") | exact Or.inr ⟨_, by walk_at "at"⟩ | fail))
 | ((with_reducible show (∃ _ : List (Key × V), _) ∨ _); refine Or.inl ⟨_, by walk_at "at", ?_⟩)
 | ((with_reducible show Dv _ _ _ _); focus walk_at "dv") | ((with_reducible show Dv1 _ _ _ _); focus walk_at "dv")
 | ((with_reducible show IsD _ _); exact Or.inl ⟨_, Or.inl (by walk_at "at")⟩)
 | ((with_reducible show V.int _ = kV _); exact kV_int)
 | ((with_reducible show Option.isSome _ = true); (first | exact isSome_ofV (by assumption) | assumption | fail))
 | ((with_reducible show SqL _ _ _ _ ∨ SqT _ _ _ _); (first | exact Or.inl (by assumption) | exact Or.inr (by assumption) | exact Or.inl (SqL.of (by walk_at "at")) | exact Or.inr (SqT.of (by walk_at "at")) | fail))
 | ((with_reducible show Dp _ _ _ _); (first | assumption | exact hO.dpL (by walk_at "mem") | exact .lst (SqL.of (by walk_at "at")) (hO.all (by walk_at "dv")) | exact hO.one (by walk_at "dv") | fail))
 | ((with_reducible show TruV _ _ _ _); (first | exact Or.inl ⟨_, SqL.of (by walk_at "at"), rfl⟩ | exact Or.inr (Or.inr ⟨_, by walk_at "at", rfl⟩) | exact Or.inr (Or.inl ⟨_, SqT.of (by walk_at "at"), rfl⟩) | fail))
 | ((with_reducible show RgOk _ _); exact RgOk.of_le (by omega) (by omega) (by omega) (by omega))
 | rfl | (with_reducible assumption) | apply And.intro | apply Exists.intro | refine iteT ?_ | refine iteF ?_
 | (walk_at "st"; (try walk_at "fl"))
 | ((with_reducible show ∀ _ : Addr, _ = none → _); (fail_if_success (with_reducible show ∀ _ : Addr, _ = none → ∃ _ : Nat → Nat → Hp → Prop, _)); intro p fp; walk_at "st")
 | (refine Or.inl ⟨SqL.of (by walk_at "at"), ?_⟩) | (refine Or.inr ⟨SqT.of (by walk_at "at"), ?_⟩) | exact Or.inl ⟨_, by walk_at "at", rfl⟩ | exact Or.inl ⟨rfl, _, SqL.of (by walk_at "at")⟩ | exact tyl_of (by walk_at "at") | exact Or.inl (SqL.of (by walk_at "at")) | exact Or.inr (SqT.of (by walk_at "at")) | exact Or.inl (by walk_at "at") | exact size_le (Nat.le_of_ble_eq_true rfl) | exact Nat.le_of_ble_eq_true rfl | exact True.intro | exact Or.inl rfl | exact Or.inr rfl | (show (_ : Prop); assumption) | (show (_ : Prop); omega) | (show (_ : Prop); dsimp only; omega) | exact mulw64 (by omega) (by omega) | exact mulw64 (by (try dsimp only); omega) (by (try dsimp only); omega) | fail))
local macro_rules | `(tactic| walk_at "go") => `(tactic| repeat walk_at "g1")

section
variable {P : Program} {w : World} {K : PySem.W.Frag} {mg : Str → Option Value} {base : Heap}
theorem twoB_of {e z m : Int} (h0 : 0 ≤ e) (h1 : e ≤ m) (h2 : 0 ≤ z) (h3 : z ≤ 65535) : twoB (.int e) (.int z) m = true := by
  simp [twoB, btwB, h0, h1, h2, h3]
def sp_Lrow (K : PySem.W.Frag) : Sp := fun vs H Q _ => ∃ (a : Addr) (R : List (Addr × Ob)) (P : List Pf), vs = [.ref a] ∧ Own K H (pt a ++ R) P ∧
  ∀ (r : List PyData) (v : V) (H' : Hp) (P' : List Pf), okR r → (∀ d ∈ r, okF d) → Dv1 K P' v (.tuple r) → Ps P P' → Own K H' (pt a ++ R) P' → Q v H'
theorem ok_Lrow (T : Txt w K mg) : FnOk P w K mg base CX0 3 T.f_Lrow T.fd_Lrow ["_law_pot_here"] (sp_Lrow K) := by
  have G_Lpick := ok_Lpick (P := P) (w := w) (base := base) T
  have G_Ldraw := ok_Ldraw (P := P) (w := w) (base := base) T
  refine T.F_Lrow.ok sc_Lrow (fun vs H Q E h => ?_) (fun cdv A outer s H vs Q E hr h => ?_)
  · obtain ⟨a, R, P, rfl, hO, k⟩ := h; rfl
  · obtain ⟨a, R, P, rfl, hO, k⟩ := h
    refine ⟨_, (pss_cons (ps_asg (pe_tup (pa_cons (pe_tup (pa_cons pe_non (pa_cons pe_non pa_nil))) (pa_cons (pe_tup (pa_cons pe_non (pa_cons pe_non pa_nil))) pa_nil))) (pg_tup rfl (pgs_cons (pg_name (i := 1) sc_Lrow.nd rfl (Or.inl rfl)) (pgs_cons (pg_name (i := 2) sc_Lrow.nd rfl (Or.inl rfl)) pgs_nil))))
        (pss_cons (ps_mid (ps_if (pt_cmpR op_eq (pe_call G_Ldraw (hr.mono (by decide)) rfl T.g_Ldraw T.F_Ldraw.kp T.b_Ldraw .nil pass0 (pa_cons (pv 0) (pa_cons pe_int pa_nil))) pe_int (nomark _))
          (pss_one (ps_set (i := 1) sc_Lrow.nd rfl (Or.inl rfl) (pe_tup (pa_cons (pe_call G_Ldraw (hr.mono (by decide)) rfl T.g_Ldraw T.F_Ldraw.kp T.b_Ldraw .nil pass0 (pa_cons (pv 0) (pa_cons pe_int pa_nil))) (pa_cons (pe_call G_Lpick (hr.mono (by decide)) rfl T.g_Lpick T.F_Lpick.kp T.b_Lpick .nil pass0 (pa_cons (pv 0) (pa_cons (pe_lst (pa_cons pe_int (pa_cons pe_int (pa_cons pe_int pa_nil)))) pa_nil))) pa_nil)))))
          pss_nil))
        (pss_cons (ps_mid (ps_if (pt_cmpR op_eq (pe_call G_Ldraw (hr.mono (by decide)) rfl T.g_Ldraw T.F_Ldraw.kp T.b_Ldraw .nil pass0 (pa_cons (pv 0) (pa_cons pe_int pa_nil))) pe_int (nomark _))
          (pss_one (ps_set (i := 2) sc_Lrow.nd rfl (Or.inl rfl) (pe_tup (pa_cons (pe_call G_Ldraw (hr.mono (by decide)) rfl T.g_Ldraw T.F_Ldraw.kp T.b_Ldraw .nil pass0 (pa_cons (pv 0) (pa_cons pe_int pa_nil))) (pa_cons (pe_call G_Lpick (hr.mono (by decide)) rfl T.g_Lpick T.F_Lpick.kp T.b_Lpick .nil pass0 (pa_cons (pv 0) (pa_cons (pe_lst (pa_cons pe_int (pa_cons pe_int (pa_cons pe_int pa_nil)))) pa_nil))) pa_nil)))))
          pss_nil))
        (pss_one (ps_ret (pe_op op_catT (pe_op op_catT (pe_tup (pa_cons (pe_call G_Ldraw (hr.mono (by decide)) rfl T.g_Ldraw T.F_Ldraw.kp T.b_Ldraw .nil pass0 (pa_cons (pv 0) (pa_cons pe_int pa_nil))) (pa_cons (pe_call G_Lpick (hr.mono (by decide)) rfl T.g_Lpick T.F_Lpick.kp T.b_Lpick .nil pass0 (pa_cons (pv 0) (pa_cons (pe_lst (pa_cons pe_non (pa_cons pe_int (pa_cons pe_int (pa_cons pe_int pa_nil))))) pa_nil))) (pa_cons (pe_call G_Lpick (hr.mono (by decide)) rfl T.g_Lpick T.F_Lpick.kp T.b_Lpick .nil pass0 (pa_cons (pv 0) (pa_cons (pe_lst (pa_cons pe_int (pa_cons pe_int (pa_cons pe_int (pa_cons pe_int (pa_cons pe_int pa_nil)))))) pa_nil))) pa_nil)))) (pv 1)) (pv 2))))))), ?_⟩
    clear G_Lpick G_Ldraw
    clear hr
    simp only [pt, List.cons_append, List.nil_append] at hO k
    walk_at "go"
    refine Stop.mk ⟨fun σ' H' => Stop (∃ (w1 w2 : Addr) (h t : PyData) (P3 : List Pf), σ' = [some (.ref a), some (.ref w1), some (.ref w2)] ∧ Ps P P3 ∧ Dv1 K P3 (.ref w1) (.tuple [h, t]) ∧ twoB h t 7 = true ∧ okF h ∧ okF t ∧ Dv1 K P3 (.ref w2) (.tuple [.none, .none]) ∧ Own K H' (pt a ++ R) P3), ?_, fun σ' H' hM => ?_⟩
    · walk_at "go"
      intro d H5 d0 d1 hO
      simp only [pt, List.cons_append, List.nil_append] at hO
      walk_at "go"
      cases hd : decide (V.int d = V.int 0) with
      | false =>
        walk_at "go"
        refine ⟨⟨_, _, .none, .none, _, rfl, ?_, ?_, rfl, trivial, trivial, ?_, hO⟩⟩
        · walk_at "ps"
        · walk_at "dv"
        · walk_at "dv"
      | true =>
        walk_at "go"
        intro e H6 e0 e1 hO
        simp only [pt, List.cons_append, List.nil_append] at hO
        walk_at "go"
        any_goals (first | exact hO.sub (L' := pt a ++ ((p, .raw (.lst [.int 0, .int 65535, .int 9])) :: R)) (by simp only [pt, List.cons_append, List.nil_append]; walk_at "sb") Ps.refl | skip)
        refine ⟨Nat.succ_pos _, by show (3 : Nat) ≤ 1000; decide, fun j v9 H7 hj hO => ?_⟩
        obtain ⟨z, rfl, hz0, hz1⟩ : ∃ z : Int, v9 = .int z ∧ 0 ≤ z ∧ z ≤ 65535 := by
          have hv := List.mem_of_getElem? hj
          simp only [List.mem_cons, List.not_mem_nil, or_false] at hv
          rcases hv with h | h | h <;> exact ⟨_, h, by decide, by decide⟩
        simp only [pt, List.cons_append, List.nil_append] at hO
        walk_at "go"
        refine ⟨⟨_, _, .int e, .int z, _, rfl, ?_, ?_, twoB_of e0 (by omega) hz0 hz1, ⟨by omega, by omega⟩, ⟨by omega, by omega⟩, ?_, hO.sub (by simp only [pt, List.cons_append, List.nil_append]; walk_at "sb") Ps.refl⟩⟩
        · walk_at "ps"
        · walk_at "dv"
        · walk_at "dv"
    clear hO
    obtain ⟨w1, w2, h, t, P3, rfl, sp, hd1, ht, okh, okt, hd2, hO⟩ := hM.h
    clear hM
    simp only [pt, List.cons_append, List.nil_append] at hO
    walk_at "go"
    refine Stop.mk ⟨fun σ' H' => Stop (∃ (w1 w2 : Addr) (h t q u : PyData) (P3 : List Pf), σ' = [some (.ref a), some (.ref w1), some (.ref w2)] ∧ Ps P P3 ∧ Dv1 K P3 (.ref w1) (.tuple [h, t]) ∧ twoB h t 7 = true ∧ okF h ∧ okF t ∧ Dv1 K P3 (.ref w2) (.tuple [q, u]) ∧ twoB q u 1023 = true ∧ okF q ∧ okF u ∧ Own K H' (pt a ++ R) P3), ?_, fun σ' H' hM => ?_⟩
    · walk_at "go"
      intro d H5 d0 d1 hO
      simp only [pt, List.cons_append, List.nil_append] at hO
      walk_at "go"
      cases hd : decide (V.int d = V.int 0) with
      | false =>
        walk_at "go"
        exact ⟨⟨_, _, h, t, .none, .none, _, rfl, sp, hd1, ht, okh, okt, hd2, rfl, trivial, trivial, hO⟩⟩
      | true =>
        walk_at "go"
        intro e H6 e0 e1 hO
        simp only [pt, List.cons_append, List.nil_append] at hO
        walk_at "go"
        any_goals (first | exact hO.sub (L' := pt a ++ ((p, .raw (.lst [.int 0, .int 65535, .int 9])) :: R)) (by simp only [pt, List.cons_append, List.nil_append]; walk_at "sb") Ps.refl | skip)
        refine ⟨Nat.succ_pos _, by show (3 : Nat) ≤ 1000; decide, fun j v9 H7 hj hO => ?_⟩
        obtain ⟨z, rfl, hz0, hz1⟩ : ∃ z : Int, v9 = .int z ∧ 0 ≤ z ∧ z ≤ 65535 := by
          have hv := List.mem_of_getElem? hj
          simp only [List.mem_cons, List.not_mem_nil, or_false] at hv
          rcases hv with h | h | h <;> exact ⟨_, h, by decide, by decide⟩
        simp only [pt, List.cons_append, List.nil_append] at hO
        walk_at "go"
        refine ⟨⟨_, _, h, t, .int e, .int z, _, rfl, ?_, hd1.mono ?_, ht, okh, okt, ?_, twoB_of e0 (by omega) hz0 hz1, ⟨by omega, by omega⟩, ⟨by omega, by omega⟩, hO.sub (by simp only [pt, List.cons_append, List.nil_append]; walk_at "sb") Ps.refl⟩⟩
        · exact sp.trans (Ps.skip Ps.refl)
        · exact Ps.skip Ps.refl
        · walk_at "dv"
    clear hO hd1 hd2 sp
    obtain ⟨w1, w2, h, t, q, u, P3, rfl, sp, hd1, ht, okh, okt, hd2, hu, okq, oku, hO⟩ := hM.h
    clear hM
    simp only [pt, List.cons_append, List.nil_append] at hO
    obtain ⟨t1, he1, hO⟩ := hO.opn (ds := [h, t]) hd1 (by simp [okh.flat, okt.flat])
    obtain ⟨t2, he2, hO⟩ := hO.opn (ds := [q, u]) (hd2.mono (Ps.skip Ps.refl)) (by simp [okq.flat, oku.flat])
    injection he1 with he1
    injection he2 with he2
    subst he1 he2
    walk_at "go"
    intro e H6 e0 e1 hO
    simp only [pt, List.cons_append, List.nil_append] at hO
    walk_at "go"
    any_goals (first | exact hO.sub (L' := pt a ++ ((p, .raw (.lst [.non, .int 7, .int 65535, .int 0])) :: R)) (by simp only [pt, List.cons_append, List.nil_append]; walk_at "sb") Ps.refl | skip)
    refine ⟨Nat.succ_pos _, by show (4 : Nat) ≤ 1000; decide, fun j v9 H7 hj hO => ?_⟩
    obtain ⟨wd, rfl, okw, hw⟩ : ∃ d : PyData, v9 = fv d ∧ okF d ∧ (noneB d || btwB d 0 65535) = true := by
      have hv := List.mem_of_getElem? hj
      simp only [List.mem_cons, List.not_mem_nil, or_false] at hv
      rcases hv with h | h | h | h
      · exact ⟨.none, h, trivial, by decide⟩
      · exact ⟨.int 7, h, ⟨by decide, by decide⟩, by decide⟩
      · exact ⟨.int 65535, h, ⟨by decide, by decide⟩, by decide⟩
      · exact ⟨.int 0, h, ⟨by decide, by decide⟩, by decide⟩
    simp only [pt, List.cons_append, List.nil_append] at hO
    replace hO := hO.sub (L' := (a, .such PotO) :: R) (by walk_at "sb") Ps.refl
    clear hj
    walk_at "go"
    any_goals (first | exact hO.sub (L' := pt a ++ ((p, .raw (.lst [.int 0, .int 1, .int 4, .int 16, .int 31])) :: R)) (by simp only [pt, List.cons_append, List.nil_append]; walk_at "sb") Ps.refl | skip)
    refine ⟨Nat.succ_pos _, by show (5 : Nat) ≤ 1000; decide, fun j v9 H8 hj hO => ?_⟩
    obtain ⟨c, rfl, hc0, hc1⟩ : ∃ z : Int, v9 = .int z ∧ 0 ≤ z ∧ z ≤ 31 := by
      have hv := List.mem_of_getElem? hj
      simp only [List.mem_cons, List.not_mem_nil, or_false] at hv
      rcases hv with h | h | h | h | h <;> exact ⟨_, h, by decide, by decide⟩
    simp only [pt, List.cons_append, List.nil_append] at hO
    replace hO := hO.sub (L' := (a, .such PotO) :: R) (by walk_at "sb") Ps.refl
    clear hj
    walk_at "go"
    any_goals (first | exact (fun z => nomatch z) | skip)
    refine And.intro (size_le (Nat.le_of_ble_eq_true rfl)) (And.intro (fun z => nomatch z) (fun _ p5 f5 => ?_))
    replace hO := hO.newT (vs := [.int e, fv wd, .int c, fv h, fv t]) f5 rfl
    refine ⟨_, rfl, ?_⟩
    walk_at "go"
    any_goals (first | exact (fun z => nomatch z) | skip)
    refine And.intro (size_le (Nat.le_of_ble_eq_true rfl)) (And.intro (fun z => nomatch z) (fun _ p6 f6 => ?_))
    replace hO := hO.newT (vs := [.int e, fv wd, .int c, fv h, fv t, fv q, fv u]) f6 rfl
    have okA : ∀ d ∈ [PyData.int e, wd, .int c, h, t, q, u], okF d := by
      intro d hd
      simp only [List.mem_cons, List.not_mem_nil, or_false] at hd
      rcases hd with rfl | rfl | rfl | rfl | rfl | rfl | rfl
      · exact ⟨by omega, by omega⟩
      · exact okw
      · exact ⟨by omega, by omega⟩
      · exact okh
      · exact okt
      · exact okq
      · exact oku
    have okB : okR [PyData.int e, wd, .int c, h, t, q, u] := by
      refine ⟨List.all_eq_true.mpr fun d hd => (okA d hd).flat, ?_⟩
      show (headB (.int e) wd (.int c) && twoB h t 7 && twoB q u 1023) = true
      rw [ht, hu, Bool.and_true, Bool.and_true]
      show (btwB (.int e) 0 4095 && (noneB wd || btwB wd 0 65535) && btwB (.int c) 0 31) = true
      rw [hw, Bool.and_true]
      simp only [btwB, Bool.and_eq_true, decide_eq_true_eq]
      omega
    exact k _ _ _ _ okB okA (Dv1.tup (List.Mem.head _) (fun M _ => dpA_fv (ds := [PyData.int e, wd, .int c, h, t, q, u]) (fun d m => (okA d m).flat))) (sp.trans (Ps.skip (Ps.skip (Ps.skip (Ps.skip (Ps.skip Ps.refl)))))) hO
end
end K91

set_option Elab.async false
set_option linter.all false
set_option maxRecDepth 100000
set_option maxHeartbeats 8000000

namespace K91
open PySem PySem.Spec PyProof.Rows L2 Hx 
local macro_rules | `(tactic| walk_at "sm") => `(tactic| repeat' (first | assumption | apply Hx.Same.upd | exact L2.Same.refl _ | apply same_trans'))
local macro_rules | `(tactic| walk_at "hp") => `(tactic| repeat' (first | assumption | exact upd_same | apply old_upd | apply same_at))
local macro_rules | `(tactic| walk_at "rd") => `(tactic| repeat' (first | rfl | apply Exists.intro | apply And.intro | refine iteT ?_ | refine iteF ?_ | exact upd_same | exact SqL.of (by assumption) | exact SqL.of upd_same | exact SqT.of upd_same | exact SqT.of (by assumption) | ((with_reducible show (_ : Int) < _); omega) | ((with_reducible show (_ : Int) ≤ _); omega) | (show (_ : Prop); assumption) | exact Or.inl ⟨_, by assumption, rfl⟩ | exact Or.inl ⟨rfl, _, SqL.of (by assumption)⟩ | exact Or.inl ⟨rfl, _, SqL.of upd_same⟩ | apply old_upd | apply Hx.SqL.new | apply tyl_new | apply Pot.new | exact same_at (by assumption) (by assumption) | exact Or.inl (SqL.of (by assumption)) | exact Or.inl (by assumption) | exact Or.inl (SqL.of upd_same) | exact size_le (Nat.le_of_ble_eq_true rfl) | exact Nat.le_of_ble_eq_true rfl | exact True.intro | exact Or.inl rfl | exact Or.inr rfl | (show (_ : Prop); omega) | (show (_ : Prop); dsimp only; omega) | exact mulw64 (by omega) (by omega) | exact mulw64 (by (try dsimp only); omega) (by (try dsimp only); omega)))
local macro_rules | `(tactic| walk_at "mem") => `(tactic| ((repeat (first | exact List.Mem.head _ | apply List.Mem.tail | fail)); done))
local macro_rules | `(tactic| walk_at "setat") => `(tactic| ((repeat (first | (with_reducible exact At.head) | (with_reducible apply At.tail) | (with_reducible apply At.app) | fail)); done))
set_option hygiene false in
local macro_rules | `(tactic| walk_at "dv") => `(tactic| ((repeat' (first | exact Dv.nil | exact Dv.of (by walk_at "mem") | exact Dv.ints _ | exact Dv1.of (by walk_at "mem") | exact Dv1.int _ | exact Dv1.non | exact Dv1.bl _ | exact Dv1.str _ | (with_reducible apply Dv.cons) | refine Dv1.tup (by walk_at "mem") ?_ | refine Dv1.lst (by walk_at "mem") ?_ | (with_reducible apply Dv.app) | fail)); done))
local macro_rules | `(tactic| walk_at "ft") => `(tactic| (first | (with_reducible exact Ft.refl) | ((with_reducible apply Ft.toL); focus walk_at "dv") | ((with_reducible apply Ft.toS); focus assumption) | (with_reducible apply Ft.lst) | (with_reducible apply Ft.Le) | (with_reducible apply Ft.dK) | (with_reducible apply Ft.De) | (with_reducible apply Ft.ins) | (with_reducible apply Ft.toL) | (with_reducible apply Ft.toS) | (with_reducible apply Ft.toD) | fail))
local macro_rules | `(tactic| walk_at "sbL") => `(tactic| repeat' (first | (with_reducible exact Sb.refl _) | exact Sb.nil | (with_reducible apply Sb.cons) | (with_reducible apply Sb.app) | (with_reducible exact Pk.one) | (with_reducible exact Pk.here) | (with_reducible exact Pk.all) | (with_reducible apply Pk.skip1) | (with_reducible apply Pk.skipB) | (with_reducible apply Sb.skip) | (with_reducible apply Sb.skipB) | ((with_reducible show Ft _ _ _ _); walk_at "ft") | ((with_reducible show (_ : List _) = _); (first | rfl | (simp [List.map_set, List.map_append]; done) | fail)) | fail))
local macro_rules | `(tactic| walk_at "sb") => `(tactic| ((walk_at "sbL"); done))
local macro_rules | `(tactic| walk_at "ps") => `(tactic| ((repeat' (first | (with_reducible exact Ps.refl) | exact Ps.nil | (with_reducible apply Ps.cons) | exact List.Mem.head _ | apply List.Mem.tail | (with_reducible apply Ps.skip) | fail)); done))
set_option hygiene false in
local macro_rules | `(tactic| walk_at "at") => `(tactic| first | assumption | exact Own.raw hO (by walk_at "mem") | exact Own.ptup hO (by walk_at "mem") | exact Own.plst hO (by walk_at "mem") | fail)
set_option hygiene false in
local macro_rules | `(tactic| walk_at "st") => `(tactic| (rw [upd_mkO hO]; generalize e : updX _ _ _ = H1; (first | ((apply Own.cset hO e); (focus walk_at "setat"); (try clear hO e); intro hO) | ((apply Own.cnewT hO e); (focus assumption); (try clear hO e); intro hO) | ((apply Own.cnew hO e); (focus assumption); (try clear hO e); intro hO) | fail)))
set_option hygiene false in
local macro_rules | `(tactic| walk_at "mk") => `(tactic| (intro p1 p2 f1 f2 f3; rw [upd_mkO hO]; generalize e : upd (updX _ _ _) _ _ = H1; apply Own.cmake hO f1 f2 f3 e; (try clear hO e); intro hO))
set_option hygiene false in
local macro_rules | `(tactic| walk_at "own") => `(tactic| (first | ((apply Own.sub hO); (focus walk_at "sb"); (focus walk_at "ps")) | ((apply Own.sub hF); (focus walk_at "sb"); (focus walk_at "ps")) | fail))
set_option hygiene false in
local macro_rules | `(tactic| walk_at "fin") => `(tactic| (refine Own.sub hO ?_ (by walk_at "ps"); walk_at "sbL"))
set_option hygiene false in
local macro_rules | `(tactic| walk_at "g1") => `(tactic| (first
 | ((with_reducible show (_ : Option HO) = _); walk_at "at")
 | ((with_reducible show (_ : Int) < _); omega) | ((with_reducible show (_ : Int) ≤ _); omega)
 | ((with_reducible show (_ : Nat) < _); (first | assumption | exact Nat.le_of_ble_eq_true rfl | exact size_lt (Nat.le_of_ble_eq_true rfl) | omega | (simp; done) | (simp; omega) | fail))
 | ((with_reducible show (_ : Nat) ≤ _); (first | assumption | exact Nat.le_of_ble_eq_true rfl | exact size_le (Nat.le_of_ble_eq_true rfl) | omega | (simp; done) | (simp; omega) | fail))
 | ((with_reducible show (_ : Pf) ∈ _); (first | assumption | (focus walk_at "mem") | ((repeat (with_reducible apply List.mem_cons_of_mem)); assumption) | fail))
 | ((with_reducible show Own _ _ _ _); (first | walk_at "own" | (walk_at "st"; walk_at "own") | fail))
 | ((with_reducible show SqL _ _ _ _); (first | assumption | exact SqL.of (by walk_at "at") | fail))
 | ((with_reducible show SqT _ _ _ _); (first | assumption | exact hO.psq (by walk_at "mem") | exact hO.psq (by assumption) | exact SqT.of (by walk_at "at") | fail))
   | ((with_reducible show V.ref _ = V.ref _); (first | rfl | fail))
 | ((with_reducible show DGet _ _ _ _); (first | exact DGet.ki (by walk_at "at") (by assumption) | exact DGet.kiF (by walk_at "at") (by assumption) | fail))
 | ((with_reducible show DPut _ _ _ _ _); exact DPut.ki (by walk_at "at") (by assumption))
 | ((with_reducible show Rd _ _ _); (first | exact Or.inl (by walk_at "at") | exact Or.inr ⟨_, by walk_at "at"⟩ | fail))
 | ((with_reducible show (∃ _ : List (Key × V), _) ∨ _); refine Or.inl ⟨_, by walk_at "at", ?_⟩)
 | ((with_reducible show Dv _ _ _ _); focus walk_at "dv") | ((with_reducible show Dv1 _ _ _ _); focus walk_at "dv")
 | ((with_reducible show IsD _ _); exact Or.inl ⟨_, Or.inl (by walk_at "at")⟩)
 | ((with_reducible show V.int _ = kV _); exact kV_int)
 | ((with_reducible show Option.isSome _ = true); (first | exact isSome_ofV (by assumption) | assumption | fail))
 | ((with_reducible show SqL _ _ _ _ ∨ SqT _ _ _ _); (first | exact Or.inl (by assumption) | exact Or.inr (by assumption) | exact Or.inl (SqL.of (by walk_at "at")) | exact Or.inr (SqT.of (by walk_at "at")) | fail))
 | ((with_reducible show Dp _ _ _ _); (first | assumption | exact hO.dpL (by walk_at "mem") | exact .lst (SqL.of (by walk_at "at")) (hO.all (by walk_at "dv")) | exact hO.one (by walk_at "dv") | fail))
 | ((with_reducible show TruV _ _ _ _); (first | exact Or.inl ⟨_, SqL.of (by walk_at "at"), rfl⟩ | exact Or.inr (Or.inr ⟨_, by walk_at "at", rfl⟩) | exact Or.inr (Or.inl ⟨_, SqT.of (by walk_at "at"), rfl⟩) | fail))
 | ((with_reducible show RgOk _ _); exact RgOk.of_le (by omega) (by omega) (by omega) (by omega))
 | rfl | (with_reducible assumption) | apply And.intro | apply Exists.intro | refine iteT ?_ | refine iteF ?_
 | (walk_at "st"; (try walk_at "fl"))
 | ((with_reducible show ∀ _ : Addr, _ = none → _); (fail_if_success (with_reducible show ∀ _ : Addr, _ = none → ∃ _ : Nat → Nat → Hp → Prop, _)); intro p fp; walk_at "st")
 | (refine Or.inl ⟨SqL.of (by walk_at "at"), ?_⟩) | (refine Or.inr ⟨SqT.of (by walk_at "at"), ?_⟩) | exact Or.inl ⟨_, by walk_at "at", rfl⟩ | exact Or.inl ⟨rfl, _, SqL.of (by walk_at "at")⟩ | exact tyl_of (by walk_at "at") | exact Or.inl (SqL.of (by walk_at "at")) | exact Or.inr (SqT.of (by walk_at "at")) | exact Or.inl (by walk_at "at") | exact size_le (Nat.le_of_ble_eq_true rfl) | exact Nat.le_of_ble_eq_true rfl | exact True.intro | exact Or.inl rfl | exact Or.inr rfl | (show (_ : Prop); assumption) | (show (_ : Prop); omega) | (show (_ : Prop); dsimp only; omega) | exact mulw64 (by omega) (by omega) | exact mulw64 (by (try dsimp only); omega) (by (try dsimp only); omega) | fail))
local macro_rules | `(tactic| walk_at "go") => `(tactic| repeat walk_at "g1")

section
variable {P : Program} {w : World} {K : PySem.W.Frag} {mg : Str → Option Value} {base : Heap}
theorem cut_lo {ds : List PyData} {k : Nat} (h : k ≤ ds.length) : cutV (ds.map fv) (some (k : Int)) none = (ds.drop k).map fv := by
  unfold cutV
  rw [HT.sIx_nat, HT.sIx_none, List.length_map, Nat.min_eq_left h, List.map_drop, List.take_of_length_le (by rw [List.length_drop, List.length_map]; omega)]
theorem cut_hi {ds : List PyData} {k : Nat} (h : k ≤ ds.length) : cutV (ds.map fv) none (some (k : Int)) = (ds.take k).map fv := by
  unfold cutV
  rw [HT.sIx_nat, HT.sIx_none, List.length_map, Nat.min_eq_left h, List.drop_zero, Nat.sub_zero, List.map_take]
theorem ncut_lo {ds : List PyData} {k : Nat} (h : k ≤ ds.length) (h0 : 0 < k) : ¬ (HT.sIx (ds.map fv).length 0 (some (k : Int)) = 0 ∧ HT.sIx (ds.map fv).length (ds.map fv).length none = (ds.map fv).length) := by
  rw [HT.sIx_nat, List.length_map, Nat.min_eq_left h]
  omega
theorem ncut_hi {ds : List PyData} {k : Nat} (h : k < ds.length) : ¬ (HT.sIx (ds.map fv).length 0 none = 0 ∧ HT.sIx (ds.map fv).length (ds.map fv).length (some (k : Int)) = (ds.map fv).length) := by
  rw [HT.sIx_nat, List.length_map, Nat.min_eq_left (by omega)]
  omega
def sp_Lbent (K : PySem.W.Frag) : Sp := fun vs H Q _ => ∃ (a t : Addr) (ds : List PyData) (R : List (Addr × Ob)) (P : List Pf), vs = [.ref a, .ref t] ∧ Own K H (pt a ++ R) P ∧ Pf.sq t (ds.map fv) ∈ P ∧ (∀ d ∈ ds, okF d) ∧ 2 ≤ ds.length ∧ ds.length ≤ 7 ∧
  (∀ (l : Addr) (H' : Hp) (P' : List Pf), Ps P P' → Own K H' (pt a ++ ((l, .raw (.lst (ds.map fv))) :: R)) P' → Q (.ref l) H') ∧
  ∀ (t' : Addr) (ds' : List PyData) (H' : Hp) (P' : List Pf), (∀ d ∈ ds', okF d) → ds'.length ≤ 8 → Pf.sq t' (ds'.map fv) ∈ P' → Ps P P' → Own K H' (pt a ++ R) P' → Q (.ref t') H'
theorem ok_Lbent (T : Txt w K mg) : FnOk P w K mg base CX0 3 T.f_Lbent T.fd_Lbent ["_law_pot_here", "_law_value"] (sp_Lbent K) := by
  have G_Ldraw := ok_Ldraw (P := P) (w := w) (base := base) T
  have G_Lpick := ok_Lpick (P := P) (w := w) (base := base) T
  refine T.F_Lbent.ok sc_Lbent (fun vs H Q E h => ?_) (fun cdv A outer s H vs Q E hr h => ?_)
  · obtain ⟨a, t, ds, R, P, rfl, hO, hm, hf, h2, h7, kl, kt⟩ := h; rfl
  · obtain ⟨a, t, ds, R, P, rfl, hO, hm, hf, h2, h7, kl, kt⟩ := h
    refine ⟨_, (pss_cons (ps_par (i := 2) (j := 3) rfl sc_Lbent.nd rfl rfl (by decide) rfl rfl (pa_cons (pe_op op_mod (pe_call G_Ldraw (hr.mono (by decide)) rfl T.g_Ldraw T.F_Ldraw.kp T.b_Ldraw .nil pass0 (pa_cons (pv 0) (pa_cons pe_int pa_nil))) (pe_callB call_len_seq (by rfl) T.m_len (by decide +kernel) (pa_cons (pv 1) pa_nil))) (pa_cons (pe_call G_Ldraw (hr.mono (by decide)) rfl T.g_Ldraw T.F_Ldraw.kp T.b_Ldraw .nil pass0 (pa_cons (pv 0) (pa_cons pe_int pa_nil))) pa_nil)) (by rfl))
        (pss_cons (ps_if (pt_cmpR op_eq (pv 3) pe_int (nomark _))
          (pss_one (ps_ret (pe_callTy call_list_of (by rfl) T.m_list (by decide +kernel) (pa_cons (pv 1) pa_nil))))
          pss_nil)
        (pss_cons (ps_if (pt_cmpR op_eq (pv 3) pe_int (nomark _))
          (pss_one (ps_ret (pe_slice sl_tup (pv 1) (po_some pe_int) po_none)))
          pss_nil)
        (pss_cons (ps_if (pt_cmpR op_eq (pv 3) pe_int (nomark _))
          (pss_one (ps_ret (pe_op op_catT (pv 1) (pe_slice sl_tup (pv 1) po_none (po_some pe_int)))))
          pss_nil)
        (pss_cons (ps_set (i := 4) sc_Lbent.nd rfl (Or.inl rfl) (pe_call G_Lpick (hr.mono (by decide)) rfl T.g_Lpick T.F_Lpick.kp T.b_Lpick .nil pass0 (pa_cons (pv 0) (pa_cons (pe_lst (pa_cons pe_non (pa_cons pe_bl (pa_cons (pe_un un_neg pe_int) (pa_cons pe_int (pa_cons pe_int (pa_cons pe_int (pa_cons pe_int (pa_cons pe_int (pa_cons pe_str (pa_cons pe_int (pa_cons pe_int (pa_cons pe_int (pa_cons pe_str (pa_cons pe_str (pa_cons pe_int (pa_cons pe_int (pa_cons pe_int pa_nil)))))))))))))))))) pa_nil))))
        (pss_one (ps_ret (pe_op op_catA (pe_op op_catA (pe_slice sl_tup (pv 1) po_none (po_some (pv 2))) (pe_tup (pa_cons (pv 4) pa_nil))) (pe_slice sl_tup (pv 1) (po_some (pe_op op_add (pv 2) pe_int)) po_none))))))))), ?_⟩
    clear G_Ldraw G_Lpick
    clear hr
    have hS := hO.psq hm
    simp only [pt, List.cons_append, List.nil_append] at hO kl kt
    have hl0 : (0 : Int) < ((ds.map fv).length : Nat) := by rw [List.length_map]; omega
    walk_at "go"
    intro d H1 d0 d1 hO
    simp only [pt, List.cons_append, List.nil_append] at hO
    have hS1 := hO.psq hm
    walk_at "go"
    any_goals (first | exact hl0 | skip)
    walk_at "go"
    intro e H2 e0 e1 hO
    simp only [pt, List.cons_append, List.nil_append] at hO
    clear hS1
    have hS2 := hO.psq hm
    walk_at "go"
    obtain ⟨m, hm9, hml⟩ : ∃ m : Nat, d % ((ds.map fv).length : Nat) = (m : Int) ∧ m < ds.length := by
      have z1 := Int.emod_nonneg d (by omega : ((ds.map fv).length : Int) ≠ 0)
      have z2 := Int.emod_lt_of_pos d hl0
      refine ⟨(d % ((ds.map fv).length : Nat)).toNat, (Int.toNat_of_nonneg z1).symm, ?_⟩
      rw [List.length_map] at z2 ⊢
      omega
    replace hO := hO.derive (q := .sq t (ds.map fv)) fun M z => z _ hm
    have nc1 : ¬ (HT.sIx (ds.map fv).length 0 (some (1 : Int)) = 0 ∧ HT.sIx (ds.map fv).length (ds.map fv).length none = (ds.map fv).length) := ncut_lo (k := 1) (by omega) (by omega)
    have ec1 : cutV (ds.map fv) (some (1 : Int)) none = (ds.drop 1).map fv := cut_lo (k := 1) (by omega)
    have nc2 : ¬ (HT.sIx (ds.map fv).length 0 none = 0 ∧ HT.sIx (ds.map fv).length (ds.map fv).length (some (1 : Int)) = (ds.map fv).length) := ncut_hi (k := 1) (by omega)
    have ec2 : cutV (ds.map fv) none (some (1 : Int)) = (ds.take 1).map fv := cut_hi (k := 1) (by omega)
    have hne : ds.map fv ≠ [] := fun z => by rw [z] at hl0; exact absurd hl0 (by decide)
    have hn2 : cutV (ds.map fv) none (some (1 : Int)) ≠ [] := fun z => by
      have z9 := congrArg List.length z
      rw [ec2, List.length_map, List.length_take] at z9
      simp only [List.length_nil] at z9
      omega
    have szB : (ds.map fv).length + (cutV (ds.map fv) none (some (1 : Int))).length ≤ sizeLine := by
      have z9 : (ds.map fv).length + (cutV (ds.map fv) none (some (1 : Int))).length ≤ 10000 := by rw [ec2, List.length_map, List.length_map, List.length_take]; omega
      exact size_le z9
    have nc3 : ¬ (HT.sIx (ds.map fv).length 0 none = 0 ∧ HT.sIx (ds.map fv).length (ds.map fv).length (some (d % ((ds.map fv).length : Nat))) = (ds.map fv).length) := by rw [hm9]; exact ncut_hi hml
    have ec3 : cutV (ds.map fv) none (some (d % ((ds.map fv).length : Nat))) = (ds.take m).map fv := by rw [hm9]; exact cut_hi (by omega)
    have nc4 : ¬ (HT.sIx (ds.map fv).length 0 (some (d % ((ds.map fv).length : Nat) + 1)) = 0 ∧ HT.sIx (ds.map fv).length (ds.map fv).length none = (ds.map fv).length) := by rw [hm9]; exact ncut_lo (k := m + 1) (by omega) (by omega)
    have ec4 : cutV (ds.map fv) (some (d % ((ds.map fv).length : Nat) + 1)) none = (ds.drop (m + 1)).map fv := by rw [hm9]; exact cut_lo (k := m + 1) (by omega)
    cases h9 : decide (V.int e = V.int 0) with
    | true =>
      walk_at "go"
      exact kl _ _ _ (Ps.skip Ps.refl) (hO.sub (by walk_at "sb") Ps.refl)
    | false =>
      walk_at "go"
      cases h8 : decide (V.int e = V.int 1) with
      | true =>
        walk_at "go"
        rw [ec1] at hO
        replace hO := hO.derive (q := .sq p ((ds.drop 1).map fv)) fun M z => SqT.of (z _ (List.Mem.head _))
        exact kt p (ds.drop 1) _ _ (fun d m => hf d (List.mem_of_mem_drop m)) (by rw [List.length_drop]; omega) (List.Mem.head _) (Ps.skip (Ps.skip (Ps.skip Ps.refl))) hO
      | false =>
        walk_at "go"
        cases h7 : decide (V.int e = V.int 2) with
        | true =>
          walk_at "go"
          any_goals (first | exact hne | skip)
          · exact fun z => absurd z hn2
          · intro _ p5 f5
            have hO5 := hO.newT (vs := ds.map fv ++ cutV (ds.map fv) none (some (1 : Int))) f5 rfl
            have hO6 := hO5.derive (q := .sq p5 ((ds ++ ds.take 1).map fv)) fun M z => by
              have z9 := SqT.of (K := K) (z _ (List.Mem.head _))
              rw [List.map_append, ← ec2]
              exact z9
            refine kt p5 (ds ++ ds.take 1) _ _ (fun d m => ?_) (by rw [List.length_append, List.length_take]; omega) (List.Mem.head _) (Ps.skip (Ps.skip (Ps.skip (Ps.skip Ps.refl)))) hO6
            rcases List.mem_append.mp m with m | m
            · exact hf d m
            · exact hf d (List.mem_of_mem_take m)
        | false =>
          walk_at "go"
          any_goals (first | exact hO.sub (L' := pt a ++ ((p, .raw (.lst [.non, .bl true, .int (-1), .int 8, .int 32, .int 1024, .int 4096, .int 65536, .str "1", .int 0, .int 1, .int 31, .str "at", .str "cause", .int 65535, .int 4095, .int 1023])) :: R)) (by simp only [pt, List.cons_append, List.nil_append]; walk_at "sb") Ps.refl | skip)
          refine ⟨Nat.succ_pos _, by show (17 : Nat) ≤ 1000; decide, fun j v9 H7 hj hO => ?_⟩
          obtain ⟨od, rfl, okd⟩ : ∃ d : PyData, v9 = fv d ∧ okF d := by
            have hv := List.mem_of_getElem? hj
            simp only [List.mem_cons, List.not_mem_nil, or_false] at hv
            rcases hv with h | h | h | h | h | h | h | h | h | h | h | h | h | h | h | h | h
            · exact ⟨.none, h, trivial⟩
            · exact ⟨.bool true, h, trivial⟩
            · exact ⟨.int (-1), h, by decide, by decide⟩
            · exact ⟨.int 8, h, by decide, by decide⟩
            · exact ⟨.int 32, h, by decide, by decide⟩
            · exact ⟨.int 1024, h, by decide, by decide⟩
            · exact ⟨.int 4096, h, by decide, by decide⟩
            · exact ⟨.int 65536, h, by decide, by decide⟩
            · exact ⟨.str "1", h, by simp [okF, five]⟩
            · exact ⟨.int 0, h, by decide, by decide⟩
            · exact ⟨.int 1, h, by decide, by decide⟩
            · exact ⟨.int 31, h, by decide, by decide⟩
            · exact ⟨.str "at", h, by simp [okF, five]⟩
            · exact ⟨.str "cause", h, by simp [okF, five]⟩
            · exact ⟨.int 65535, h, by decide, by decide⟩
            · exact ⟨.int 4095, h, by decide, by decide⟩
            · exact ⟨.int 1023, h, by decide, by decide⟩
          simp only [pt, List.cons_append, List.nil_append] at hO
          replace hO := hO.sub (L' := (a, .such PotO) :: R) (by walk_at "sb") Ps.refl
          clear hj
          have okD : ∀ x ∈ ds.take m ++ [od] ++ ds.drop (m + 1), okF x := by
            intro x hx
            rcases List.mem_append.mp hx with hx | hx
            · rcases List.mem_append.mp hx with hx | hx
              · exact hf x (List.mem_of_mem_take hx)
              · obtain rfl := List.mem_singleton.mp hx
                exact okd
            · exact hf x (List.mem_of_mem_drop hx)
          have lnD : (ds.take m ++ [od] ++ ds.drop (m + 1)).length ≤ 8 := by
            simp only [List.length_append, List.length_take, List.length_drop, List.length_cons, List.length_nil]
            omega
          have mpD : (ds.take m ++ [od] ++ ds.drop (m + 1)).map fv = cutV (ds.map fv) none (some (d % ((ds.map fv).length : Nat))) ++ [fv od] ++ cutV (ds.map fv) (some (d % ((ds.map fv).length : Nat) + 1)) none := by
            rw [ec3, ec4, List.map_append, List.map_append]
            rfl
          generalize ds.take m ++ [od] ++ ds.drop (m + 1) = D at okD lnD mpD
          have szA : (cutV (ds.map fv) none (some (d % ((ds.map fv).length : Nat)))).length + [fv od].length ≤ sizeLine := by
            have z9 : (cutV (ds.map fv) none (some (d % ((ds.map fv).length : Nat)))).length + [fv od].length ≤ 10000 := by
              rw [ec3, List.length_map, List.length_take]
              show _ + 1 ≤ _
              omega
            exact size_le z9
          have szC : [fv od].length + (cutV (ds.map fv) (some (d % ((ds.map fv).length : Nat) + 1)) none).length ≤ sizeLine := by
            have z9 : [fv od].length + (cutV (ds.map fv) (some (d % ((ds.map fv).length : Nat) + 1)) none).length ≤ 10000 := by
              rw [ec4, List.length_map, List.length_drop]
              show 1 + _ ≤ _
              omega
            exact size_le z9
          have szE : (cutV (ds.map fv) none (some (d % ((ds.map fv).length : Nat))) ++ [fv od]).length + (cutV (ds.map fv) (some (d % ((ds.map fv).length : Nat) + 1)) none).length ≤ sizeLine := by
            have z9 : (cutV (ds.map fv) none (some (d % ((ds.map fv).length : Nat))) ++ [fv od]).length + (cutV (ds.map fv) (some (d % ((ds.map fv).length : Nat) + 1)) none).length ≤ 10000 := by
              rw [ec3, ec4, List.length_append, List.length_map, List.length_map, List.length_take, List.length_drop]
              show _ + 1 + _ ≤ _
              omega
            exact size_le z9
          walk_at "go"
          · intro z0
            rw [z0, List.nil_append] at mpD
            walk_at "go"
            · intro z
              exact nomatch z
            · refine ⟨fun _ z1 => ?_, fun _ _ p5 f5 => ?_⟩
              · rw [z1, List.append_nil] at mpD
                replace hO := hO.derive (q := .sq _ (D.map fv)) fun M z => by
                  have z9 := SqT.of (K := K) (z _ (List.Mem.tail _ (List.Mem.head _)))
                  rw [mpD]
                  exact z9
                exact kt _ D _ _ okD lnD (List.Mem.head _) (Ps.skip (Ps.skip (Ps.skip (Ps.skip (Ps.skip Ps.refl))))) hO
              · replace hO := hO.newT (vs := [fv od] ++ cutV (ds.map fv) (some (d % ((ds.map fv).length : Nat) + 1)) none) f5 rfl
                rw [← mpD] at hO
                replace hO := hO.derive (q := .sq p5 (D.map fv)) fun M z => SqT.of (z _ (List.Mem.head _))
                have hO9 := kt p5 D _ _ okD lnD (List.Mem.head _) (Ps.skip (Ps.skip (Ps.skip (Ps.skip (Ps.skip (Ps.skip Ps.refl)))))) hO
                rw [mpD] at hO9
                exact hO9
          · refine And.intro (fun _ z => nomatch z) (fun _ _ p5 f5 => ?_)
            replace hO := hO.newT (vs := cutV (ds.map fv) none (some (d % ((ds.map fv).length : Nat))) ++ [fv od]) f5 rfl
            walk_at "go"
            · intro z
              exact absurd z (List.append_ne_nil_of_right_ne_nil _ (List.cons_ne_nil _ _))
            · refine And.intro (fun _ z1 => ?_) (fun _ _ p6 f6 => ?_)
              · rw [z1, List.append_nil] at mpD
                replace hO := hO.derive (q := .sq p5 (D.map fv)) fun M z => by
                  have z9 := SqT.of (K := K) (z _ (List.Mem.tail _ (List.Mem.head _)))
                  rw [mpD]
                  exact z9
                exact kt p5 D _ _ okD lnD (List.Mem.head _) (Ps.skip (Ps.skip (Ps.skip (Ps.skip (Ps.skip (Ps.skip Ps.refl)))))) hO
              · replace hO := hO.newT (vs := cutV (ds.map fv) none (some (d % ((ds.map fv).length : Nat))) ++ [fv od] ++ cutV (ds.map fv) (some (d % ((ds.map fv).length : Nat) + 1)) none) f6 rfl
                rw [← mpD] at hO
                replace hO := hO.derive (q := .sq p6 (D.map fv)) fun M z => SqT.of (z _ (List.Mem.head _))
                have hO9 := kt p6 D _ _ okD lnD (List.Mem.head _) (Ps.skip (Ps.skip (Ps.skip (Ps.skip (Ps.skip (Ps.skip (Ps.skip Ps.refl))))))) hO
                rw [mpD] at hO9
                exact hO9
end
end K91

set_option Elab.async false
set_option linter.all false
set_option maxRecDepth 100000
set_option maxHeartbeats 8000000

namespace K91
open PySem PySem.Spec PyProof.Rows L2 Hx 
local macro_rules | `(tactic| walk_at "sm") => `(tactic| repeat' (first | assumption | apply Hx.Same.upd | exact L2.Same.refl _ | apply same_trans'))
local macro_rules | `(tactic| walk_at "hp") => `(tactic| repeat' (first | assumption | exact upd_same | apply old_upd | apply same_at))
local macro_rules | `(tactic| walk_at "rd") => `(tactic| repeat' (first | rfl | apply Exists.intro | apply And.intro | refine iteT ?_ | refine iteF ?_ | exact upd_same | exact SqL.of (by assumption) | exact SqL.of upd_same | exact SqT.of upd_same | exact SqT.of (by assumption) | ((with_reducible show (_ : Int) < _); omega) | ((with_reducible show (_ : Int) ≤ _); omega) | (show (_ : Prop); assumption) | exact Or.inl ⟨_, by assumption, rfl⟩ | exact Or.inl ⟨rfl, _, SqL.of (by assumption)⟩ | exact Or.inl ⟨rfl, _, SqL.of upd_same⟩ | apply old_upd | apply Hx.SqL.new | apply tyl_new | apply Pot.new | exact same_at (by assumption) (by assumption) | exact Or.inl (SqL.of (by assumption)) | exact Or.inl (by assumption) | exact Or.inl (SqL.of upd_same) | exact size_le (Nat.le_of_ble_eq_true rfl) | exact Nat.le_of_ble_eq_true rfl | exact True.intro | exact Or.inl rfl | exact Or.inr rfl | (show (_ : Prop); omega) | (show (_ : Prop); dsimp only; omega) | exact mulw64 (by omega) (by omega) | exact mulw64 (by (try dsimp only); omega) (by (try dsimp only); omega)))
local macro_rules | `(tactic| walk_at "mem") => `(tactic| ((repeat (first | exact List.Mem.head _ | apply List.Mem.tail | fail)); done))
local macro_rules | `(tactic| walk_at "setat") => `(tactic| ((repeat (first | (with_reducible exact At.head) | (with_reducible apply At.tail) | (with_reducible apply At.app) | fail)); done))
set_option hygiene false in
local macro_rules | `(tactic| walk_at "dv") => `(tactic| ((repeat' (first | exact Dv.nil | exact Dv.of (by walk_at "mem") | exact Dv.ints _ | exact Dv1.of (by walk_at "mem") | exact Dv1.int _ | exact Dv1.non | exact Dv1.bl _ | exact Dv1.str _ | (with_reducible apply Dv.cons) | refine Dv1.tup (by walk_at "mem") ?_ | refine Dv1.lst (by walk_at "mem") ?_ | (with_reducible apply Dv.app) | fail)); done))
local macro_rules | `(tactic| walk_at "ft") => `(tactic| (first | (with_reducible exact Ft.refl) | ((with_reducible apply Ft.toL); focus walk_at "dv") | ((with_reducible apply Ft.toS); focus assumption) | (with_reducible apply Ft.lst) | (with_reducible apply Ft.Le) | (with_reducible apply Ft.dK) | (with_reducible apply Ft.De) | (with_reducible apply Ft.ins) | (with_reducible apply Ft.toL) | (with_reducible apply Ft.toS) | (with_reducible apply Ft.toD) | fail))
local macro_rules | `(tactic| walk_at "sbL") => `(tactic| repeat' (first | (with_reducible exact Sb.refl _) | exact Sb.nil | (with_reducible apply Sb.cons) | (with_reducible apply Sb.app) | (with_reducible exact Pk.one) | (with_reducible exact Pk.here) | (with_reducible exact Pk.all) | (with_reducible apply Pk.skip1) | (with_reducible apply Pk.skipB) | (with_reducible apply Sb.skip) | (with_reducible apply Sb.skipB) | ((with_reducible show Ft _ _ _ _); walk_at "ft") | ((with_reducible show (_ : List _) = _); (first | rfl | (simp [List.map_set, List.map_append]; done) | fail)) | fail))
local macro_rules | `(tactic| walk_at "sb") => `(tactic| ((walk_at "sbL"); done))
local macro_rules | `(tactic| walk_at "ps") => `(tactic| ((repeat' (first | (with_reducible exact Ps.refl) | exact Ps.nil | (with_reducible apply Ps.cons) | exact List.Mem.head _ | apply List.Mem.tail | (with_reducible apply Ps.skip) | fail)); done))
set_option hygiene false in
local macro_rules | `(tactic| walk_at "at") => `(tactic| first | assumption | exact Own.raw hO (by walk_at "mem") | exact Own.ptup hO (by walk_at "mem") | exact Own.plst hO (by walk_at "mem") | fail)
set_option hygiene false in
local macro_rules | `(tactic| walk_at "st") => `(tactic| (rw [upd_mkO hO]; generalize e : updX _ _ _ = H1; (first | ((apply Own.cset hO e); (focus walk_at "setat"); (try clear hO e); intro hO) | ((apply Own.cnewT hO e); (focus assumption); (try clear hO e); intro hO) | ((apply Own.cnew hO e); (focus assumption); (try clear hO e); intro hO) | fail)))
set_option hygiene false in
local macro_rules | `(tactic| walk_at "mk") => `(tactic| (intro p1 p2 f1 f2 f3; rw [upd_mkO hO]; generalize e : upd (updX _ _ _) _ _ = H1; apply Own.cmake hO f1 f2 f3 e; (try clear hO e); intro hO))
set_option hygiene false in
local macro_rules | `(tactic| walk_at "own") => `(tactic| (first | ((apply Own.sub hO); (focus walk_at "sb"); (focus walk_at "ps")) | ((apply Own.sub hF); (focus walk_at "sb"); (focus walk_at "ps")) | fail))
set_option hygiene false in
local macro_rules | `(tactic| walk_at "fin") => `(tactic| (refine Own.sub hO ?_ (by walk_at "ps"); walk_at "sbL"))
set_option hygiene false in
local macro_rules | `(tactic| walk_at "g1") => `(tactic| (first
 | ((with_reducible show (_ : Option HO) = _); walk_at "at")
 | ((with_reducible show (_ : Int) < _); omega) | ((with_reducible show (_ : Int) ≤ _); omega)
 | ((with_reducible show (_ : Nat) < _); (first | assumption | exact Nat.le_of_ble_eq_true rfl | exact size_lt (Nat.le_of_ble_eq_true rfl) | omega | (simp; done) | (simp; omega) | fail))
 | ((with_reducible show (_ : Nat) ≤ _); (first | assumption | exact Nat.le_of_ble_eq_true rfl | exact size_le (Nat.le_of_ble_eq_true rfl) | omega | (simp; done) | (simp; omega) | fail))
 | ((with_reducible show (_ : Pf) ∈ _); (first | assumption | (focus walk_at "mem") | ((repeat (with_reducible apply List.mem_cons_of_mem)); assumption) | fail))
 | ((with_reducible show Own _ _ _ _); (first | walk_at "own" | (walk_at "st"; walk_at "own") | fail))
 | ((with_reducible show SqL _ _ _ _); (first | assumption | exact SqL.of (by walk_at "at") | fail))
 | ((with_reducible show SqT _ _ _ _); (first | assumption | exact hO.psq (by walk_at "mem") | exact hO.psq (by assumption) | exact SqT.of (by walk_at "at") | fail))
   | ((with_reducible show V.ref _ = V.ref _); (first | rfl | fail))
 | ((with_reducible show DGet _ _ _ _); (first | exact DGet.ki (by walk_at "at") (by assumption) | exact DGet.kiF (by walk_at "at") (by assumption) | fail))
 | ((with_reducible show DPut _ _ _ _ _); exact DPut.ki (by walk_at "at") (by assumption))
 | ((with_reducible show Rd _ _ _); (first | exact Or.inl (by walk_at "at") | exact Or.inr ⟨_, by walk_at "at"⟩ | fail))
 | ((with_reducible show (∃ _ : List (Key × V), _) ∨ _); refine Or.inl ⟨_, by walk_at "at", ?_⟩)
 | ((with_reducible show Dv _ _ _ _); focus walk_at "dv") | ((with_reducible show Dv1 _ _ _ _); focus walk_at "dv")
 | ((with_reducible show IsD _ _); exact Or.inl ⟨_, Or.inl (by walk_at "at")⟩)
 | ((with_reducible show V.int _ = kV _); exact kV_int)
 | ((with_reducible show Option.isSome _ = true); (first | exact isSome_ofV (by assumption) | assumption | fail))
 | ((with_reducible show SqL _ _ _ _ ∨ SqT _ _ _ _); (first | exact Or.inl (by assumption) | exact Or.inr (by assumption) | exact Or.inl (SqL.of (by walk_at "at")) | exact Or.inr (SqT.of (by walk_at "at")) | fail))
 | ((with_reducible show Dp _ _ _ _); (first | assumption | exact hO.dpL (by walk_at "mem") | exact .lst (SqL.of (by walk_at "at")) (hO.all (by walk_at "dv")) | exact hO.one (by walk_at "dv") | fail))
 | ((with_reducible show TruV _ _ _ _); (first | exact Or.inl ⟨_, SqL.of (by walk_at "at"), rfl⟩ | exact Or.inr (Or.inr ⟨_, by walk_at "at", rfl⟩) | exact Or.inr (Or.inl ⟨_, SqT.of (by walk_at "at"), rfl⟩) | fail))
 | ((with_reducible show RgOk _ _); exact RgOk.of_le (by omega) (by omega) (by omega) (by omega))
 | rfl | (with_reducible assumption) | apply And.intro | apply Exists.intro | refine iteT ?_ | refine iteF ?_
 | (walk_at "st"; (try walk_at "fl"))
 | ((with_reducible show ∀ _ : Addr, _ = none → _); (fail_if_success (with_reducible show ∀ _ : Addr, _ = none → ∃ _ : Nat → Nat → Hp → Prop, _)); intro p fp; walk_at "st")
 | (refine Or.inl ⟨SqL.of (by walk_at "at"), ?_⟩) | (refine Or.inr ⟨SqT.of (by walk_at "at"), ?_⟩) | exact Or.inl ⟨_, by walk_at "at", rfl⟩ | exact Or.inl ⟨rfl, _, SqL.of (by walk_at "at")⟩ | exact tyl_of (by walk_at "at") | exact Or.inl (SqL.of (by walk_at "at")) | exact Or.inr (SqT.of (by walk_at "at")) | exact Or.inl (by walk_at "at") | exact size_le (Nat.le_of_ble_eq_true rfl) | exact Nat.le_of_ble_eq_true rfl | exact True.intro | exact Or.inl rfl | exact Or.inr rfl | (show (_ : Prop); assumption) | (show (_ : Prop); omega) | (show (_ : Prop); dsimp only; omega) | exact mulw64 (by omega) (by omega) | exact mulw64 (by (try dsimp only); omega) (by (try dsimp only); omega) | fail))
local macro_rules | `(tactic| walk_at "go") => `(tactic| repeat walk_at "g1")

section
variable {P : Program} {w : World} {K : PySem.W.Frag} {mg : Str → Option Value} {base : Heap}
theorem four_five {n : Str} (h : n ∈ (["at", "register", "place", "cause"] : List Str)) : okF (.str n) := by
  show n ∈ five
  simp only [five, List.mem_cons, List.not_mem_nil, or_false] at h ⊢
  rcases h with h | h | h | h
  · exact .inl h
  · exact .inr (.inl h)
  · exact .inr (.inr (.inl h))
  · exact .inr (.inr (.inr (.inl h)))
theorem okP.int {p : Str × Int} (h : okP p) (h4 : p.2 ≤ 4) : okF (.int p.2) := by
  obtain ⟨a, b, c, hk, hkk⟩ := ki_cases h.2
  have h0 : ∀ t ∈ kiL, 0 ≤ t.2.1 := by decide
  have h9 := h0 _ hk
  have h1 := h.1
  rw [ptB_at hkk] at h1
  simp only [btwB, decide_eq_true_eq] at h1
  simp only at h9
  exact ⟨by omega, by omega⟩
theorem neB_self (v : V) : (!decide (v = v)) = false := by simp
theorem AnyO.up {L L' : List (Addr × Ob)} {P : List Pf} {v : V} {kd : Option (List PyData)} (h : AnyO L P v kd) (u : ∀ x ∈ L, x ∈ L') : AnyO L' P v kd := by
  cases kd with
  | some ds => exact h
  | none => exact h.imp id (Or.imp (fun ⟨a, xs, e, m⟩ => ⟨a, xs, e, u _ m⟩) (fun ⟨a, xs, e, m⟩ => ⟨a, xs, e, u _ m⟩))
theorem due_sh (o : Option (Nat × Nat)) : SeqAt.shaped (dueD o) = true := by
  rcases o with _ | ⟨i, j⟩
  · exact flat_sh (n := 0) ⟨by simp [dueD, PyData.canLay0], by simp [dueD, PyData.depth]⟩
  · refine flat_sh (n := 1) (flat_tup fun d hd => ?_)
    simp only [List.mem_cons, List.not_mem_nil, or_false] at hd
    rcases hd with rfl | rfl <;> exact flat_int 0 _
theorem due_eq (o : Option (Nat × Nat)) : PyData.eqv (dueD o) (dueD o) = true := by
  rcases o with _ | ⟨i, j⟩ <;> simp [dueD, PyData.eqv, PyData.eqvAll]
def sp_Lright (K : PySem.W.Frag) : Sp := fun vs H Q _ => ∃ (a : Addr) (R : List (Addr × Ob)) (P : List Pf), vs = [.ref a] ∧ Own K H (pt a ++ R) P ∧ ∀ H', Q (.bl true) H'
theorem ok_Lright (T : Txt w K mg) : FnG P w K mg base 8 T.f_Lright T.fd_Lright ["_law_pot_here"] (sp_Lright K) := by
  have G_Lpoint := ok_Lpoint (P := P) (w := w) (base := base) T
  have G_Lrow := ok_Lrow (P := P) (w := w) (base := base) T
  have G_Lbent := ok_Lbent (P := P) (w := w) (base := base) T
  have G_is_row := ok_is_row (P := P) (w := w) (base := base) T
  have G_is_point := ok_is_point (P := P) (w := w) (base := base) T
  have G_Lis_row := ok_Lis_row (P := P) (w := w) (base := base) T
  have G_Lis_point := ok_Lis_point (P := P) (w := w) (base := base) T
  have G_Ldraw := ok_Ldraw (P := P) (w := w) (base := base) T
  have G_meets := ok_meets (P := P) (w := w) (base := base) T
  have G_Lmeets := ok_Lmeets (P := P) (w := w) (base := base) T
  have G_Lfirst := ok_Lfirst (P := P) (w := w) (base := base) T
  have G_first_met := ok_first_met (P := P) (w := w) (base := base) T
  refine fnG T.F_Lright sc_Lright (fun vs H Q E h => ?_) (fun cdv A outer s H vs Q E hr hg h => ?_)
  · obtain ⟨a, R, P, rfl, hO, k⟩ := h; rfl
  · obtain ⟨a, R, P, rfl, hO, k⟩ := h
    refine ⟨_, (pss_cons (ps_par (i := 1) (j := 2) rfl sc_Lright.nd rfl rfl (by decide) rfl rfl (pa_cons (pe_call G_Lpoint (hr.mono (by decide)) rfl T.g_Lpoint T.F_Lpoint.kp T.b_Lpoint .nil pass0 (pa_cons (pv 0) pa_nil)) (pa_cons (pe_call G_Lrow (hr.mono (by decide)) rfl T.g_Lrow T.F_Lrow.kp T.b_Lrow .nil pass0 (pa_cons (pv 0) pa_nil)) pa_nil)) (by rfl))
        (pss_cons (ps_forS PassesOwn.never rfl (pi_range1 rfl T.m_range (pa_cons pe_int pa_nil)) (pg_name (i := 3) sc_Lright.nd rfl (Or.inl rfl))
          (pss_one (ps_forS PassesOwn.never rfl (pi_list (pe_lst (pa_cons (pe_tup (pa_cons (pe_glob (v := .ref T.f_is_point) rfl T.g_is_point rfl) (pa_cons (pe_glob (v := .ref T.f_Lis_point) rfl T.g_Lis_point rfl) (pa_cons (pv 1) pa_nil)))) (pa_cons (pe_tup (pa_cons (pe_glob (v := .ref T.f_is_row) rfl T.g_is_row rfl) (pa_cons (pe_glob (v := .ref T.f_Lis_row) rfl T.g_Lis_row rfl) (pa_cons (pv 2) pa_nil)))) pa_nil)))) (pg_tup rfl (pgs_cons (pg_name (i := 4) sc_Lright.nd rfl (Or.inl rfl)) (pgs_cons (pg_name (i := 5) sc_Lright.nd rfl (Or.inl rfl)) (pgs_cons (pg_name (i := 6) sc_Lright.nd rfl (Or.inl rfl)) pgs_nil))))
            (pss_cons (ps_set (i := 6) sc_Lright.nd rfl (Or.inl rfl) (pe_mid (pe_ifExp (pt_cmpR op_eq (pv 3) pe_int (nomark _)) (pv 6) (pe_call G_Lbent (hr.mono (by decide)) rfl T.g_Lbent T.F_Lbent.kp T.b_Lbent .nil pass0 (pa_cons (pv 0) (pa_cons (pv 6) pa_nil))))))
            (pss_cons (ps_set (i := 7) sc_Lright.nd rfl (Or.inl rfl) (pe_callB (call_reprG hg (hr.mono (by decide))) (by rfl) T.m_repr (by decide +kernel) (pa_cons (pv 6) pa_nil)))
            (pss_one (ps_if (PW.pt (pw_or (pt_cmpR op_ne (pe_callB call_repr_bl (by rfl) T.m_repr (by decide +kernel) (pa_cons (pe_callA (S := S91 T.f_is_point T.f_is_row (sp_is_point K) (sp_is_row K)) (held91 (k := 4) G_is_point T.F_is_point.kp T.b_is_point G_is_row T.F_is_row.kp T.b_is_row (by decide) (by decide)) (i := 4) (hr.mono (by decide)) rfl (Or.inl rfl) (pa_cons (pv 6) pa_nil)) pa_nil)) (pe_callB call_repr_bl (by rfl) T.m_repr (by decide +kernel) (pa_cons (pe_callA (S := S91 T.f_Lis_point T.f_Lis_row (sp_Lispoint K) (sp_Lisrow K)) (held91 (k := 4) G_Lis_point T.F_Lis_point.kp T.b_Lis_point G_Lis_row T.F_Lis_row.kp T.b_Lis_row (by decide) (by decide)) (i := 5) (hr.mono (by decide)) rfl (Or.inl rfl) (pa_cons (pv 6) pa_nil)) pa_nil)) (nomark _)) (pw_or1 (pt_cmpR op_ne (pe_callB (call_reprG hg (hr.mono (by decide))) (by rfl) T.m_repr (by decide +kernel) (pa_cons (pv 6) pa_nil)) (pv 7) (nomark _)))))
              (pss_one (ps_ret pe_bl))
              pss_nil)))))))
        (pss_cons (ps_forS PassesOwn.never rfl (pi_list (pe_lst (pa_cons pe_non (pa_cons pe_int (pa_cons pe_bl (pa_cons pe_str (pa_cons (pe_lst pa_nil) (pa_cons (pe_tup pa_nil) (pa_cons pe_dnewK (pa_cons (pe_lst (pa_cons (pv 1) pa_nil)) (pa_cons (pe_op op_repT (pe_tup (pa_cons pe_non pa_nil)) pe_int) (pa_cons (pe_op op_repT (pe_tup (pa_cons pe_int pa_nil)) pe_int) pa_nil)))))))))))) (pg_name (i := 6) sc_Lright.nd rfl (Or.inl rfl))
          (pss_one (ps_if (pt_cmpR op_ne (pe_callB (call_reprG hg (hr.mono (by decide))) (by rfl) T.m_repr (by decide +kernel) (pa_cons (pe_lst (pa_cons (pe_callKA G_is_point (hr.mono (by decide)) rfl T.g_is_point T.F_is_point.kp T.kb_is_point pass0 (pk_cons (pv 6) pk_nil)) (pa_cons (pe_callKA G_is_row (hr.mono (by decide)) rfl T.g_is_row T.F_is_row.kp T.kb_is_row pass0 (pk_cons (pv 6) pk_nil)) pa_nil))) pa_nil)) (pe_callB (call_reprG hg (hr.mono (by decide))) (by rfl) T.m_repr (by decide +kernel) (pa_cons (pe_lst (pa_cons (pe_call G_Lis_point (hr.mono (by decide)) rfl T.g_Lis_point T.F_Lis_point.kp T.b_Lis_point .nil pass0 (pa_cons (pv 6) pa_nil)) (pa_cons (pe_call G_Lis_row (hr.mono (by decide)) rfl T.g_Lis_row T.F_Lis_row.kp T.b_Lis_row .nil pass0 (pa_cons (pv 6) pa_nil)) pa_nil))) pa_nil)) (nomark _))
            (pss_one (ps_ret pe_bl))
            pss_nil)))
        (pss_cons (ps_par (i := 8) (j := 9) rfl sc_Lright.nd rfl rfl (by decide) rfl rfl (pa_cons (pe_lst pa_nil) (pa_cons (pe_lst pa_nil) pa_nil)) (by rfl))
        (pss_cons (ps_forS PassesOwn.never rfl (pi_range1 rfl T.m_range (pa_cons (pe_call G_Ldraw (hr.mono (by decide)) rfl T.g_Ldraw T.F_Ldraw.kp T.b_Ldraw .nil pass0 (pa_cons (pv 0) (pa_cons pe_int pa_nil))) pa_nil)) (pg_name (i := 3) sc_Lright.nd rfl (Or.inl rfl))
          (pss_one (ps_expr (pe_bm PySem.F.plainAttrs_list PySem.F.slot_list_append PySem.F.type_list_append mt_append (pv 8) (pa_cons (pe_call G_Lpoint (hr.mono (by decide)) rfl T.g_Lpoint T.F_Lpoint.kp T.b_Lpoint .nil pass0 (pa_cons (pv 0) pa_nil)) pa_nil)))))
        (pss_cons (ps_forS PassesOwn.never rfl (pi_range1 rfl T.m_range (pa_cons (pe_call G_Ldraw (hr.mono (by decide)) rfl T.g_Ldraw T.F_Ldraw.kp T.b_Ldraw .nil pass0 (pa_cons (pv 0) (pa_cons pe_int pa_nil))) pa_nil)) (pg_name (i := 3) sc_Lright.nd rfl (Or.inl rfl))
          (pss_one (ps_expr (pe_bm PySem.F.plainAttrs_list PySem.F.slot_list_append PySem.F.type_list_append mt_append (pv 9) (pa_cons (pe_call G_Lrow (hr.mono (by decide)) rfl T.g_Lrow T.F_Lrow.kp T.b_Lrow .nil pass0 (pa_cons (pv 0) pa_nil)) pa_nil)))))
        (pss_cons (ps_if (pt_cmpR op_ne (pe_callB call_repr_bl (by rfl) T.m_repr (by decide +kernel) (pa_cons (pe_callKA G_meets (hr.mono (by decide)) rfl T.g_meets T.F_meets.kp T.kp_meets_0_10 pass0 (pk_cons (pv 2) (pk_cons (pv 1) pk_nil))) pa_nil)) (pe_callB call_repr_bl (by rfl) T.m_repr (by decide +kernel) (pa_cons (pe_call G_Lmeets (hr.mono (by decide)) rfl T.g_Lmeets T.F_Lmeets.kp T.b_Lmeets .nil pass0 (pa_cons (pv 1) (pa_cons (pv 2) pa_nil))) pa_nil)) (nomark _))
          (pss_one (ps_ret pe_bl))
          pss_nil)
        (pss_cons (ps_set (i := 10) sc_Lright.nd rfl (Or.inl rfl) (pe_call G_Lfirst (hr.mono (by decide)) rfl T.g_Lfirst T.F_Lfirst.kp T.b_Lfirst .nil pass0 (pa_cons (pv 8) (pa_cons (pv 9) pa_nil))))
        (pss_one (ps_ret (pe_and (pe_cmpR (op_eqD hr.units) (pe_call G_first_met (hr.mono (by decide)) rfl T.g_first_met T.F_first_met.kp T.b_first_met .nil pass0 (pa_cons (pv 8) (pa_cons (pv 9) pa_nil))) (pv 10) (nomark _)) (pe_one (pe_cmpR (op_eqD hr.units) (pe_callKA G_first_met (hr.mono (by decide)) rfl T.g_first_met T.F_first_met.kp T.kp_first_met_0_10 pass0 (pk_cons (pe_callTy call_tuple_of (by rfl) T.m_tuple (by decide +kernel) (pa_cons (pv 9) pa_nil)) (pk_cons (pe_callTy call_tuple_of (by rfl) T.m_tuple (by decide +kernel) (pa_cons (pv 8) pa_nil)) pk_nil))) (pv 10) (nomark _)))))))))))))), ?_⟩
    clear G_Lpoint G_Lrow G_Lbent G_is_row G_is_point G_Lis_row G_Lis_point G_Ldraw G_meets G_Lmeets G_Lfirst G_first_met
    clear hr hg
    simp only [pt, List.cons_append, List.nil_append] at hO
    walk_at "go"
    intro pp vp H1 P1 okp hp4 hdp s1 hO
    simp only [pt, List.cons_append, List.nil_append] at hO
    walk_at "go"
    intro rr vr H2 P2 okr okF7 hdr s2 hO
    obtain ⟨tp, rfl, hO⟩ := hO.opn (ds := [.str pp.1, .int pp.2]) (hdp.mono s2)
    obtain ⟨tr, rfl, hO⟩ := hO.opn (ds := rr) (hdr.mono (Ps.skip Ps.refl)) okr.1
    have mP : Pf.sq tp ([PyData.str pp.1, .int pp.2].map fv) ∈ Pf.sq tr (rr.map fv) :: Pf.sq tp ([PyData.str pp.1, .int pp.2].map fv) :: P2 := List.Mem.tail _ (List.Mem.head _)
    have mR : Pf.sq tr (rr.map fv) ∈ Pf.sq tr (rr.map fv) :: Pf.sq tp ([PyData.str pp.1, .int pp.2].map fv) :: P2 := List.Mem.head _
    have dP := (hdp.mono s2).mono (P' := Pf.sq tr (rr.map fv) :: Pf.sq tp ([PyData.str pp.1, .int pp.2].map fv) :: P2) (Ps.skip (Ps.skip Ps.refl))
    have dR := hdr.mono (P' := Pf.sq tr (rr.map fv) :: Pf.sq tp ([PyData.str pp.1, .int pp.2].map fv) :: P2) (Ps.skip (Ps.skip Ps.refl))
    generalize Pf.sq tr (rr.map fv) :: Pf.sq tp ([PyData.str pp.1, .int pp.2].map fv) :: P2 = P3 at hO mP mR dP dR
    clear hdp hdr s1 s2
    have nef := Hx.Fun.ne T.F_is_point T.F_is_row (by decide)
    have neg := Hx.Fun.ne T.F_Lis_point T.F_Lis_row (by decide)
    have okF2 : ∀ d ∈ [PyData.str pp.1, .int pp.2], okF d := by
      intro d hd
      simp only [List.mem_cons, List.not_mem_nil, or_false] at hd
      rcases hd with rfl | rfl
      · exact four_five okp.2
      · exact okp.int hp4
    have len7 := okr.len
    simp only [pt, List.cons_append, List.nil_append] at hO
    walk_at "go"
    refine ⟨for_range (n := ((8 : Int)).toNat) (fun i σ H' => Stop (∃ (t3 t4 t5 t6 t7 : Option V) (P4 : List Pf), σ = [some (.ref a), some (.ref tp), some (.ref tr), t3, t4, t5, t6, t7, none, none, none] ∧ Ps P3 P4 ∧ Own K H' (pt a ++ R) P4)) ⟨⟨none, none, none, none, none, P3, rfl, Ps.refl, hO⟩⟩ (fun i σ H' hi h => ?_) (fun σ H' h => ?_)⟩
    · clear hO
      obtain ⟨t3, t4, t5, t6, t7, P4, rfl, s4, hO⟩ := h.h
      clear h
      simp only [pt, List.cons_append, List.nil_append] at hO
      walk_at "go"
      rename_i q1 fq1 Hq1 q2 fq2 Hq2
      obtain ⟨l9, rfl⟩ : ∃ q, q = p := ⟨p, rfl⟩
      have m1 : Pf.tup q1 [.ref T.f_is_point, .ref T.f_Lis_point, .ref tp] ∈ Pf.tup q2 [V.ref T.f_is_row, .ref T.f_Lis_row, .ref tr] :: Pf.tup q1 [.ref T.f_is_point, .ref T.f_Lis_point, .ref tp] :: P4 := List.Mem.tail _ (List.Mem.head _)
      have m2 : Pf.tup q2 [.ref T.f_is_row, .ref T.f_Lis_row, .ref tr] ∈ Pf.tup q2 [V.ref T.f_is_row, .ref T.f_Lis_row, .ref tr] :: Pf.tup q1 [.ref T.f_is_point, .ref T.f_Lis_point, .ref tp] :: P4 := List.Mem.head _
      have s9 : Ps P3 (Pf.tup q2 [V.ref T.f_is_row, .ref T.f_Lis_row, .ref tr] :: Pf.tup q1 [.ref T.f_is_point, .ref T.f_Lis_point, .ref tp] :: P4) := s4.trans (Ps.skip (Ps.skip Ps.refl))
      generalize Pf.tup q2 [V.ref T.f_is_row, .ref T.f_Lis_row, .ref tr] :: Pf.tup q1 [.ref T.f_is_point, .ref T.f_Lis_point, .ref tp] :: P4 = P9 at hO m1 m2 s9
      clear fp fq1 fq2
      refine ⟨for_list (xs := [.ref q1, .ref q2]) (fun j σ H' => Stop (∃ (t4 t5 t6 t7 : Option V) (P5 : List Pf), σ = [some (.ref a), some (.ref tp), some (.ref tr), some (.int (0 + (i : Nat))), t4, t5, t6, t7, none, none, none] ∧ Ps P9 P5 ∧ Own K H' ((l9, .raw (.lst [.ref q1, .ref q2])) :: (a, .such PotO) :: R) P5)) ⟨⟨_, _, _, _, P9, rfl, Ps.refl, hO⟩⟩ (fun j σ H' hj h => ?_) (fun j v σ H' hv h => ?_) (fun σ H' h => ?_)⟩
      · obtain ⟨t4, t5, t6, t7, P5, rfl, s5, hO⟩ := h.h
        exact SqL.of (hO.raw (List.Mem.head _))
      · clear hO
        obtain ⟨t4, t5, t6, t7, P5, rfl, s5, hO⟩ := h.h
        clear h
        have hv2 := List.mem_of_getElem? hv
        clear hv
        simp only [List.mem_cons, List.not_mem_nil, or_false] at hv2
        rcases hv2 with rfl | rfl
        · have hq := hO.ptup (s5 _ m1)
          walk_at "go"
          refine Stop.mk ⟨fun v' H' => Stop (∃ (b : Addr) (ds : List PyData) (E : List (Addr × Ob)) (P6 : List Pf), v' = .ref b ∧ Ps P5 P6 ∧ (∀ d ∈ ds, okF d) ∧ ds.length ≤ 10 ∧ Own K H' (E ++ ((l9, .raw (.lst [.ref q1, .ref q2])) :: (a, .such PotO) :: R)) P6 ∧ (E = [(b, .raw (.lst (ds.map fv)))] ∨ (E = [] ∧ Pf.sq b (ds.map fv) ∈ P6))), ?_, fun v' H' hM => ?_⟩
          · walk_at "go"
            cases h9 : decide (V.int (0 + (i : Nat)) = V.int 0) with
            | true =>
              walk_at "go"
              exact ⟨⟨tp, _, [], P5, rfl, Ps.refl, okF2, (by show (2 : Nat) ≤ 10; decide), hO, .inr ⟨rfl, s5 _ (s9 _ mP)⟩⟩⟩
            | false =>
              walk_at "go"
              any_goals (first | exact hO.sub (L' := pt a ++ ((l9, .raw (.lst [.ref q1, .ref q2])) :: R)) (by simp only [pt, List.cons_append, List.nil_append]; walk_at "sb") Ps.refl | skip)
              refine ⟨s5 _ (s9 _ mP), okF2, (Nat.le_refl 2), (by show (2 : Nat) ≤ 7; decide), fun l H7 P7 s7 hO => ?_, fun t' ds' H7 P7 okD lD mD s7 hO => ?_⟩
              · exact ⟨⟨l, _, [(l, _)], P7, rfl, s7, okF2, (by show (2 : Nat) ≤ 10; decide), hO.sub (by simp only [pt, List.cons_append, List.nil_append]; walk_at "sb") Ps.refl, .inl rfl⟩⟩
              · exact ⟨⟨t', ds', [], P7, rfl, s7, okD, by omega, hO.sub (by simp only [pt, List.cons_append, List.nil_append]; walk_at "sb") Ps.refl, .inr ⟨rfl, mD⟩⟩⟩
          clear hO
          obtain ⟨b, ds, E, P6, rfl, s6, okD, lnD, hO, hE⟩ := hM.h
          clear hM
          rcases hE with rfl | ⟨rfl, mD⟩
          · rw [List.singleton_append] at hO
            have hdp : Dp K H' (.ref b) (.list ds) := .lst (SqL.of (hO.raw (List.Mem.head _))) (dpA_fv fun d m => (okD d m).flat)
            obtain ⟨as1, as2, as3, as4⟩ := ask_lst okD lnD
            have hav : AnyV K H' P6 (.ref b) none := AnyO.toV (kd := none) (.inr (.inl ⟨b, _, rfl, List.Mem.head _⟩)) hO
            have hnm : ∀ n d, (none : Option (List PyData)) = some [.str n, d] → n ∈ (["at", "register", "place", "cause", "1"] : List Str) := fun _ _ h => nomatch h
            walk_at "go"
            any_goals (first | exact S91.one | skip)
            walk_at "go"
            intro H7 P7 s7 hO
            clear hdp hav
            have hdp : Dp K H7 (.ref b) (.list ds) := .lst (SqL.of (hO.raw (List.Mem.head _))) (dpA_fv fun d m => (okD d m).flat)
            have hav : AnyV K H7 P7 (.ref b) none := AnyO.toV (kd := none) (.inr (.inl ⟨b, _, rfl, List.Mem.head _⟩)) hO
            walk_at "go"
            any_goals (first | exact S91.one | skip)
            walk_at "go"
            intro H8 P8 s8 hO
            clear hdp hav
            have hdp : Dp K H8 (.ref b) (.list ds) := .lst (SqL.of (hO.raw (List.Mem.head _))) (dpA_fv fun d m => (okD d m).flat)
            have hav : AnyV K H8 P8 (.ref b) none := AnyO.toV (kd := none) (.inr (.inl ⟨b, _, rfl, List.Mem.head _⟩)) hO
            walk_at "go"
            repeat (rw [neB_self]; walk_at "go")
            exact ⟨⟨_, _, _, _, P8, rfl, s5.trans (s6.trans (s7.trans s8)), hO.sub (by walk_at "sb") Ps.refl⟩⟩
          · rw [List.nil_append] at hO
            have hdp : Dp K H' (.ref b) (.tuple ds) := .tup (hO.psq mD) (dpA_fv fun d m => (okD d m).flat)
            obtain ⟨as1, as2, as3, as4⟩ := ask_tup okD lnD
            have hav : AnyV K H' P6 (.ref b) (some ds) := ⟨b, rfl, mD, fun d m => (okD d m).flat, by omega⟩
            have hnm : ∀ n d, some ds = some [.str n, d] → n ∈ (["at", "register", "place", "cause", "1"] : List Str) := by
              intro n d h
              injection h with h
              subst h
              exact okD (.str n) List.mem_cons_self
            walk_at "go"
            any_goals (first | exact S91.one | skip)
            walk_at "go"
            intro H7 P7 s7 hO
            clear hdp hav
            have hdp : Dp K H7 (.ref b) (.tuple ds) := .tup (hO.psq (s7 _ mD)) (dpA_fv fun d m => (okD d m).flat)
            have hav : AnyV K H7 P7 (.ref b) (some ds) := ⟨b, rfl, s7 _ mD, fun d m => (okD d m).flat, by omega⟩
            walk_at "go"
            any_goals (first | exact S91.one | skip)
            walk_at "go"
            intro H8 P8 s8 hO
            clear hdp hav
            have hdp : Dp K H8 (.ref b) (.tuple ds) := .tup (hO.psq ((s7.trans s8) _ mD)) (dpA_fv fun d m => (okD d m).flat)
            have hav : AnyV K H8 P8 (.ref b) (some ds) := ⟨b, rfl, (s7.trans s8) _ mD, fun d m => (okD d m).flat, by omega⟩
            walk_at "go"
            repeat (rw [neB_self]; walk_at "go")
            exact ⟨⟨_, _, _, _, P8, rfl, s5.trans (s6.trans (s7.trans s8)), hO.sub (by walk_at "sb") Ps.refl⟩⟩
        · have hq := hO.ptup (s5 _ m2)
          walk_at "go"
          refine Stop.mk ⟨fun v' H' => Stop (∃ (b : Addr) (ds : List PyData) (E : List (Addr × Ob)) (P6 : List Pf), v' = .ref b ∧ Ps P5 P6 ∧ (∀ d ∈ ds, okF d) ∧ ds.length ≤ 10 ∧ Own K H' (E ++ ((l9, .raw (.lst [.ref q1, .ref q2])) :: (a, .such PotO) :: R)) P6 ∧ (E = [(b, .raw (.lst (ds.map fv)))] ∨ (E = [] ∧ Pf.sq b (ds.map fv) ∈ P6))), ?_, fun v' H' hM => ?_⟩
          · walk_at "go"
            cases h9 : decide (V.int (0 + (i : Nat)) = V.int 0) with
            | true =>
              walk_at "go"
              exact ⟨⟨tr, _, [], P5, rfl, Ps.refl, okF7, (by rw [len7]; decide), hO, .inr ⟨rfl, s5 _ (s9 _ mR)⟩⟩⟩
            | false =>
              walk_at "go"
              any_goals (first | exact hO.sub (L' := pt a ++ ((l9, .raw (.lst [.ref q1, .ref q2])) :: R)) (by simp only [pt, List.cons_append, List.nil_append]; walk_at "sb") Ps.refl | skip)
              refine ⟨s5 _ (s9 _ mR), okF7, (by rw [len7]; decide), (by rw [len7]; decide), fun l H7 P7 s7 hO => ?_, fun t' ds' H7 P7 okD lD mD s7 hO => ?_⟩
              · exact ⟨⟨l, _, [(l, _)], P7, rfl, s7, okF7, (by rw [len7]; decide), hO.sub (by simp only [pt, List.cons_append, List.nil_append]; walk_at "sb") Ps.refl, .inl rfl⟩⟩
              · exact ⟨⟨t', ds', [], P7, rfl, s7, okD, by omega, hO.sub (by simp only [pt, List.cons_append, List.nil_append]; walk_at "sb") Ps.refl, .inr ⟨rfl, mD⟩⟩⟩
          clear hO
          obtain ⟨b, ds, E, P6, rfl, s6, okD, lnD, hO, hE⟩ := hM.h
          clear hM
          rcases hE with rfl | ⟨rfl, mD⟩
          · rw [List.singleton_append] at hO
            have hdp : Dp K H' (.ref b) (.list ds) := .lst (SqL.of (hO.raw (List.Mem.head _))) (dpA_fv fun d m => (okD d m).flat)
            obtain ⟨as1, as2, as3, as4⟩ := ask_lst okD lnD
            have hav : AnyV K H' P6 (.ref b) none := AnyO.toV (kd := none) (.inr (.inl ⟨b, _, rfl, List.Mem.head _⟩)) hO
            have hnm : ∀ n d, (none : Option (List PyData)) = some [.str n, d] → n ∈ (["at", "register", "place", "cause", "1"] : List Str) := fun _ _ h => nomatch h
            walk_at "go"
            any_goals (first | exact (S91.two nef) | skip)
            walk_at "go"
            any_goals (first | exact (S91.two neg) | skip)
            walk_at "go"
            repeat (rw [neB_self]; walk_at "go")
            exact ⟨⟨_, _, _, _, P6, rfl, s5.trans s6, hO.sub (by walk_at "sb") Ps.refl⟩⟩
          · rw [List.nil_append] at hO
            have hdp : Dp K H' (.ref b) (.tuple ds) := .tup (hO.psq mD) (dpA_fv fun d m => (okD d m).flat)
            obtain ⟨as1, as2, as3, as4⟩ := ask_tup okD lnD
            have hav : AnyV K H' P6 (.ref b) (some ds) := ⟨b, rfl, mD, fun d m => (okD d m).flat, by omega⟩
            have hnm : ∀ n d, some ds = some [.str n, d] → n ∈ (["at", "register", "place", "cause", "1"] : List Str) := by
              intro n d h
              injection h with h
              subst h
              exact okD (.str n) List.mem_cons_self
            walk_at "go"
            any_goals (first | exact (S91.two nef) | skip)
            walk_at "go"
            any_goals (first | exact (S91.two neg) | skip)
            walk_at "go"
            repeat (rw [neB_self]; walk_at "go")
            exact ⟨⟨_, _, _, _, P6, rfl, s5.trans s6, hO.sub (by walk_at "sb") Ps.refl⟩⟩
      · clear hO
        obtain ⟨t4, t5, t6, t7, P5, rfl, s5, hO⟩ := h.h
        clear h
        exact ⟨⟨_, _, _, _, _, P5, rfl, s9.trans s5, hO.sub (by simp only [pt, List.cons_append, List.nil_append]; walk_at "sb") Ps.refl⟩⟩
    · clear hO
      obtain ⟨t3, t4, t5, t6, t7, P4, rfl, s4, hO⟩ := h.h
      clear h
      simp only [pt, List.cons_append, List.nil_append] at hO
      walk_at "go"
      rename_i e1 fe1 He1
      obtain ⟨e2, rfl⟩ : ∃ q, q = p := ⟨p, rfl⟩
      refine fun d3 fd3 => ?_
      walk_at "st"
      walk_at "go"
      any_goals (first | exact (fun z => nomatch z) | skip)
      rename_i e4 fe4 He4
      obtain ⟨e5, rfl⟩ : ∃ q, q = p := ⟨p, rfl⟩
      refine And.intro (by decide) (And.intro (by decide) (And.intro (by decide) (fun e6 fe6 => ?_)))
      rw [show (List.replicate (Int.toNat 7) [V.non]).flatten = [V.non, .non, .non, .non, .non, .non, .non] from rfl]
      replace hO := hO.newT (vs := [.non, .non, .non, .non, .non, .non, .non]) fe6 rfl
      generalize upd _ e6 _ = He6 at hO ⊢
      walk_at "go"
      any_goals (first | exact (fun z => nomatch z) | skip)
      obtain ⟨e7, rfl⟩ : ∃ q, q = p := ⟨p, rfl⟩
      refine And.intro (by decide) (And.intro (by decide) (And.intro (by decide) (fun e8 fe8 => ?_)))
      rw [show (List.replicate (Int.toNat 7) [V.int 0]).flatten = [V.int 0, .int 0, .int 0, .int 0, .int 0, .int 0, .int 0] from rfl]
      replace hO := hO.newT (vs := [.int 0, .int 0, .int 0, .int 0, .int 0, .int 0, .int 0]) fe8 rfl
      generalize upd _ e8 _ = He8 at hO ⊢
      walk_at "go"
      obtain ⟨lq, rfl⟩ : ∃ q, q = p := ⟨p, rfl⟩
      replace hO := hO.derive (q := .sq e2 (([] : List PyData).map fv)) fun M z => SqT.of (z (.tup e2 []) (by walk_at "mem"))
      replace hO := hO.derive (q := .sq e6 ([PyData.none, .none, .none, .none, .none, .none, .none].map fv)) fun M z => SqT.of (z (.tup e6 [.non, .non, .non, .non, .non, .non, .non]) (by walk_at "mem"))
      replace hO := hO.derive (q := .sq e8 ([PyData.int 0, .int 0, .int 0, .int 0, .int 0, .int 0, .int 0].map fv)) fun M z => SqT.of (z (.tup e8 [.int 0, .int 0, .int 0, .int 0, .int 0, .int 0, .int 0]) (by walk_at "mem"))
      obtain ⟨P9, s9, m2, m6, m8, hO⟩ : ∃ P9, Ps P3 P9 ∧ Pf.sq e2 (([] : List PyData).map fv) ∈ P9 ∧ Pf.sq e6 ([PyData.none, .none, .none, .none, .none, .none, .none].map fv) ∈ P9 ∧ Pf.sq e8 ([PyData.int 0, .int 0, .int 0, .int 0, .int 0, .int 0, .int 0].map fv) ∈ P9 ∧ Own K H1 ((lq, .raw (.lst [.non, .int 5, .bl true, .str "at", .ref e1, .ref e2, .ref d3, .ref e4, .ref e6, .ref e8])) :: (e4, .raw (.lst [.ref tp])) :: (d3, .raw (.dK [])) :: (e1, .raw (.lst [])) :: (a, .such PotO) :: R) P9 :=
        ⟨_, s4.trans (by repeat (first | exact Ps.refl | apply Ps.skip)), by walk_at "mem", by walk_at "mem", by walk_at "mem", hO⟩
      clear fp fe8 fe6 fe4 fd3 fe1
      refine ⟨for_list (xs := [.non, .int 5, .bl true, .str "at", .ref e1, .ref e2, .ref d3, .ref e4, .ref e6, .ref e8]) (fun j σ H' => Stop (∃ (t6 : Option V) (P5 : List Pf), σ = [some (.ref a), some (.ref tp), some (.ref tr), t3, t4, t5, t6, t7, none, none, none] ∧ Ps P9 P5 ∧ Own K H' ((lq, .raw (.lst [.non, .int 5, .bl true, .str "at", .ref e1, .ref e2, .ref d3, .ref e4, .ref e6, .ref e8])) :: (e4, .raw (.lst [.ref tp])) :: (d3, .raw (.dK [])) :: (e1, .raw (.lst [])) :: (a, .such PotO) :: R) P5)) ⟨⟨t6, P9, rfl, Ps.refl, hO⟩⟩ (fun j σ H' hj h => ?_) (fun j v σ H' hv h => ?_) (fun σ H' h => ?_)⟩
      · obtain ⟨t6, P5, rfl, s5, hO⟩ := h.h
        exact SqL.of (hO.raw (List.Mem.head _))
      · clear hO
        obtain ⟨t6, P5, rfl, s5, hO⟩ := h.h
        clear h
        have hv2 := List.mem_of_getElem? hv
        clear hv
        obtain ⟨kd, hany, hnm⟩ : ∃ kd, (∀ P6, Ps P5 P6 → AnyO ((lq, .raw (.lst [.non, .int 5, .bl true, .str "at", .ref e1, .ref e2, .ref d3, .ref e4, .ref e6, .ref e8])) :: (e4, .raw (.lst [.ref tp])) :: (d3, .raw (.dK [])) :: (e1, .raw (.lst [])) :: (a, .such PotO) :: R) P6 v kd) ∧ ∀ n d, kd = some [.str n, d] → n ∈ (["at", "register", "place", "cause", "1"] : List Str) := by
          simp only [List.mem_cons, List.not_mem_nil, or_false] at hv2
          rcases hv2 with rfl | rfl | rfl | rfl | rfl | rfl | rfl | rfl | rfl | rfl
          · exact ⟨none, fun _ _ => .inl ⟨.none, rfl, rfl⟩, fun _ _ h => nomatch h⟩
          · exact ⟨none, fun _ _ => .inl ⟨.int 5, rfl, rfl⟩, fun _ _ h => nomatch h⟩
          · exact ⟨none, fun _ _ => .inl ⟨.bool true, rfl, rfl⟩, fun _ _ h => nomatch h⟩
          · exact ⟨none, fun _ _ => .inl ⟨.str "at", rfl, rfl⟩, fun _ _ h => nomatch h⟩
          · exact ⟨none, fun _ _ => .inr (.inl ⟨e1, _, rfl, by walk_at "mem"⟩), fun _ _ h => nomatch h⟩
          · exact ⟨some [], fun _ s6 => ⟨e2, rfl, s6 _ (s5 _ m2), (fun d h => nomatch h), Nat.zero_le _⟩, fun n d h => by injection h with h; exact nomatch h⟩
          · exact ⟨none, fun _ _ => .inr (.inr ⟨d3, _, rfl, by walk_at "mem"⟩), fun _ _ h => nomatch h⟩
          · exact ⟨none, fun _ _ => .inr (.inl ⟨e4, _, rfl, by walk_at "mem"⟩), fun _ _ h => nomatch h⟩
          · exact ⟨some _, fun _ s6 => ⟨e6, rfl, s6 _ (s5 _ m6), (fun d h => by revert d; decide), by decide⟩, fun n d h => by injection h with h; injection h with h h2; exact nomatch h⟩
          · exact ⟨some _, fun _ s6 => ⟨e8, rfl, s6 _ (s5 _ m8), (fun d h => by revert d; decide), by decide⟩, fun n d h => by injection h with h; injection h with h h2; exact nomatch h⟩
        clear hv2
        have hav : AnyV K H' P5 v kd := AnyO.toV (hany _ Ps.refl) hO
        obtain ⟨as1, as2, as3, as4⟩ := ask_lst (ds := [.bool (ptB kd), .bool (rowB kd)]) (by intro d hd; simp only [List.mem_cons, List.not_mem_nil, or_false] at hd; rcases hd with rfl | rfl <;> trivial) (by show (2 : Nat) ≤ 10; decide)
        walk_at "go"
        intro H7 P7 s7 hO
        clear hav
        have hav : AnyV K H7 P7 v kd := AnyO.toV (hany _ s7) hO
        walk_at "go"
        · exact AnyO.toV (AnyO.up (hany _ s7) fun _ m => List.Mem.tail _ m) hO
        refine ⟨hnm, fun H8 P8 s8 hO => ?_⟩
        clear hav
        have hav : AnyV K H8 P8 v kd := AnyO.toV (AnyO.up (hany _ (s7.trans s8)) fun _ m => List.Mem.tail _ m) hO
        walk_at "go"
        repeat (rw [neB_self]; walk_at "go")
        exact ⟨⟨_, P8, rfl, s5.trans (s7.trans s8), hO.sub (by walk_at "sb") Ps.refl⟩⟩
      · clear hO
        obtain ⟨t6, P5, rfl, s5, hO⟩ := h.h
        clear h
        replace hO := hO.sub (L' := (a, .such PotO) :: R) (by walk_at "sb") Ps.refl
        walk_at "go"
        any_goals (first | (rename_i l8 fl8 Hl8; exact hO.sub (L' := pt a ++ ((l8, .raw (.lst [])) :: (p, .raw (.lst [])) :: R)) (by simp only [pt, List.cons_append, List.nil_append]; walk_at "sb") Ps.refl) | skip)
        refine And.intro (by decide) (And.intro (by decide) (fun d H7 d0 d1 hO => ?_))
        walk_at "go"
        rename_i l8 fl8 Hl8 hOl8
        obtain ⟨l9, rfl⟩ : ∃ q, q = p := ⟨p, rfl⟩
        clear fp fl8 hOl8
        refine ⟨for_range (n := d.toNat) (fun i σ H' => Stop (∃ (t3 : Option V) (us : List V) (ps : List (Str × Int)) (P6 : List Pf), σ = [some (.ref a), some (.ref tp), some (.ref tr), t3, t4, t5, t6, t7, some (.ref l8), some (.ref l9), none] ∧ Ps P5 P6 ∧ Dv K P6 us (ps.map pdP) ∧ (∀ p ∈ ps, okP p) ∧ ps.length ≤ i ∧ Own K H' (pt a ++ ((l8, .raw (.lst us)) :: (l9, .raw (.lst [])) :: R)) P6)) ⟨⟨t3, [], [], P5, rfl, Ps.refl, Dv.nil, (fun _ h => nomatch h), Nat.le_refl _, hO⟩⟩ (fun i σ H' hi h => ?_) (fun σ H' h => ?_)⟩
        · clear hO
          obtain ⟨t3, us, ps, P6, rfl, s6, hdu, hps, hpl, hO⟩ := h.h
          clear h
          have hul : us.length = ps.length := by have := (hO.all hdu).len; simpa using this
          have hus : us.length < sizeLine := size_lt (by omega)
          walk_at "go"
          intro pq vq H9 P7 okq _ hdq s7 hO
          simp only [pt, List.cons_append, List.nil_append] at hO
          walk_at "go"
          refine ⟨⟨_, us ++ [vq], ps ++ [pq], P7, rfl, s6.trans s7, ?_, fun p hp => (List.mem_append.mp hp).elim (hps p) (fun h => List.mem_singleton.mp h ▸ okq), ?_, hO.sub (by simp only [pt, List.cons_append, List.nil_append]; walk_at "sb") Ps.refl⟩⟩
          · rw [List.map_append]
            exact (hdu.mono s7).app (Dv.cons hdq Dv.nil)
          · rw [List.length_append]
            show _ + 1 ≤ _
            omega
        · clear hO
          obtain ⟨t3, us, ps, P6, rfl, s6, hdu, hps, hpl, hO⟩ := h.h
          clear h
          have hul : us.length = ps.length := by have := (hO.all hdu).len; simpa using this
          walk_at "go"
          intro e H7 e0 e1 hO
          walk_at "go"
          refine ⟨for_range (n := e.toNat) (fun i σ H' => Stop (∃ (t3 : Option V) (vs : List V) (rs : List (List PyData)) (P7 : List Pf), σ = [some (.ref a), some (.ref tp), some (.ref tr), t3, t4, t5, t6, t7, some (.ref l8), some (.ref l9), none] ∧ Ps P6 P7 ∧ Dv K P7 vs (rs.map PyData.tuple) ∧ (∀ r ∈ rs, okR r) ∧ rs.length ≤ i ∧ Own K H' (pt a ++ ((l8, .raw (.lst us)) :: (l9, .raw (.lst vs)) :: R)) P7)) ⟨⟨t3, [], [], P6, rfl, Ps.refl, Dv.nil, (fun _ h => nomatch h), Nat.le_refl _, hO⟩⟩ (fun i σ H' hi h => ?_) (fun σ H' h => ?_)⟩
          · clear hO
            obtain ⟨t3, vs, rs, P7, rfl, s7, hdv, hrs, hrl, hO⟩ := h.h
            clear h
            have hvl : vs.length = rs.length := by have := (hO.all hdv).len; simpa using this
            have hus : vs.length < sizeLine := size_lt (by omega)
            walk_at "go"
            intro rq vq H9 P8 okq _ hdq s8 hO
            simp only [pt, List.cons_append, List.nil_append] at hO
            walk_at "go"
            refine ⟨⟨_, vs ++ [vq], rs ++ [rq], P8, rfl, s7.trans s8, ?_, fun p hp => (List.mem_append.mp hp).elim (hrs p) (fun h => List.mem_singleton.mp h ▸ okq), ?_, hO.sub (by simp only [pt, List.cons_append, List.nil_append]; walk_at "sb") Ps.refl⟩⟩
            · rw [List.map_append]
              exact (hdv.mono s8).app (Dv.cons hdq Dv.nil)
            · rw [List.length_append]
              show _ + 1 ≤ _
              omega
          · clear hO
            obtain ⟨t3, vs, rs, P7, rfl, s7, hdv, hrs, hrl, hO⟩ := h.h
            clear h
            have hvl : vs.length = rs.length := by have := (hO.all hdv).len; simpa using this
            have hdu7 := hdu.mono s7
            have dP7 := dP.mono (s9.trans (s5.trans (s6.trans s7)))
            have dR7 := dR.mono (s9.trans (s5.trans (s6.trans s7)))
            simp only [pt, List.cons_append, List.nil_append] at hO
            walk_at "go"
            intro H8 P8 s8 hO
            clear dP7 dR7 hdu7
            have dP8 := dP.mono (s9.trans (s5.trans (s6.trans (s7.trans s8))))
            have dR8 := dR.mono (s9.trans (s5.trans (s6.trans (s7.trans s8))))
            walk_at "go"
            intro H10 P10 s10 hO
            clear dP8 dR8
            have hdu10 := hdu.mono (s7.trans (s8.trans s10))
            have hdv10 := hdv.mono (s8.trans s10)
            have oa : OSq ((a, Ob.such PotO) :: (l8, Ob.raw (HO.lst us)) :: (l9, Ob.raw (HO.lst vs)) :: R) P10 l8 us := .inl (by walk_at "mem")
            have ob : OSq ((a, Ob.such PotO) :: (l8, Ob.raw (HO.lst us)) :: (l9, Ob.raw (HO.lst vs)) :: R) P10 l9 vs := .inl (by walk_at "mem")
            have hp9 : ps.length ≤ 1000 := by omega
            have hr9 : rs.length ≤ 1000 := by omega
            walk_at "go"
            repeat (rw [neB_self]; walk_at "go")
            intro o v H11 P11 ho hv s11 hO
            have hdu11 := hdu10.mono s11
            have hdv11 := hdv10.mono s11
            have oa11 := oa.mono s11
            have ob11 := ob.mono s11
            clear oa ob hdu10 hdv10
            walk_at "go"
            intro o2 v2 H12 P12 ho2 hv2 s12 hO
            obtain rfl := FirstR.uniq ho2 ho
            have dp1 : Dp K H12 v2 (dueD o2) := hO.one hv2
            have dp2 : Dp K H12 v (dueD o2) := hO.one (hv.mono s12)
            have sh2 := due_sh o2
            have eq2 := due_eq o2
            walk_at "go"
            rw [eq2]
            clear oa11 ob11
            have hdu12 := hdu11.mono s12
            have hdv12 := hdv11.mono s12
            walk_at "go"
            repeat (first | exact hdu12.mono (Ps.skip (Ps.skip Ps.refl)) | exact hdv12.mono (Ps.skip (Ps.skip Ps.refl)) | ((with_reducible show OSq _ _ _ _); first | exact Or.inr (List.Mem.head _) | exact Or.inr (List.Mem.tail _ (List.Mem.head _)) | fail) | walk_at "g1")
            intro o3 v3 H13 P13 ho3 hv3 s13 hO
            obtain rfl := FirstR.uniq ho3 ho2
            have dp3 : Dp K H13 v3 (dueD o3) := hO.one hv3
            have dp4 : Dp K H13 v (dueD o3) := hO.one (hv.mono (s12.trans ((Ps.skip (Ps.skip Ps.refl)).trans s13)))
            walk_at "go"
            rw [eq2]
            exact k _
end
end K91

set_option Elab.async false
set_option linter.all false
set_option maxRecDepth 100000
set_option maxHeartbeats 8000000

namespace K91
open PySem PySem.Spec PyProof.Rows L2 Hx 
local macro_rules | `(tactic| walk_at "sm") => `(tactic| repeat' (first | assumption | apply Hx.Same.upd | exact L2.Same.refl _ | apply same_trans'))
local macro_rules | `(tactic| walk_at "hp") => `(tactic| repeat' (first | assumption | exact upd_same | apply old_upd | apply same_at))
local macro_rules | `(tactic| walk_at "rd") => `(tactic| repeat' (first | rfl | apply Exists.intro | apply And.intro | refine iteT ?_ | refine iteF ?_ | exact upd_same | exact SqL.of (by assumption) | exact SqL.of upd_same | exact SqT.of upd_same | exact SqT.of (by assumption) | ((with_reducible show (_ : Int) < _); omega) | ((with_reducible show (_ : Int) ≤ _); omega) | (show (_ : Prop); assumption) | exact Or.inl ⟨_, by assumption, rfl⟩ | exact Or.inl ⟨rfl, _, SqL.of (by assumption)⟩ | exact Or.inl ⟨rfl, _, SqL.of upd_same⟩ | apply old_upd | apply Hx.SqL.new | apply tyl_new | apply Pot.new | exact same_at (by assumption) (by assumption) | exact Or.inl (SqL.of (by assumption)) | exact Or.inl (by assumption) | exact Or.inl (SqL.of upd_same) | exact size_le (Nat.le_of_ble_eq_true rfl) | exact Nat.le_of_ble_eq_true rfl | exact True.intro | exact Or.inl rfl | exact Or.inr rfl | (show (_ : Prop); omega) | (show (_ : Prop); dsimp only; omega) | exact mulw64 (by omega) (by omega) | exact mulw64 (by (try dsimp only); omega) (by (try dsimp only); omega)))
local macro_rules | `(tactic| walk_at "mem") => `(tactic| ((repeat (first | exact List.Mem.head _ | apply List.Mem.tail | fail)); done))
local macro_rules | `(tactic| walk_at "setat") => `(tactic| ((repeat (first | (with_reducible exact At.head) | (with_reducible apply At.tail) | (with_reducible apply At.app) | fail)); done))
set_option hygiene false in
local macro_rules | `(tactic| walk_at "dv") => `(tactic| ((repeat' (first | exact Dv.nil | exact Dv.of (by walk_at "mem") | exact Dv.ints _ | exact Dv1.of (by walk_at "mem") | exact Dv1.int _ | exact Dv1.non | exact Dv1.bl _ | exact Dv1.str _ | (with_reducible apply Dv.cons) | refine Dv1.tup (by walk_at "mem") ?_ | refine Dv1.lst (by walk_at "mem") ?_ | (with_reducible apply Dv.app) | fail)); done))
local macro_rules | `(tactic| walk_at "ft") => `(tactic| (first | (with_reducible exact Ft.refl) | ((with_reducible apply Ft.toL); focus walk_at "dv") | ((with_reducible apply Ft.toS); focus assumption) | (with_reducible apply Ft.lst) | (with_reducible apply Ft.Le) | (with_reducible apply Ft.dK) | (with_reducible apply Ft.De) | (with_reducible apply Ft.ins) | (with_reducible apply Ft.toL) | (with_reducible apply Ft.toS) | (with_reducible apply Ft.toD) | fail))
local macro_rules | `(tactic| walk_at "sbL") => `(tactic| repeat' (first | (with_reducible exact Sb.refl _) | exact Sb.nil | (with_reducible apply Sb.cons) | (with_reducible apply Sb.app) | (with_reducible exact Pk.one) | (with_reducible exact Pk.here) | (with_reducible exact Pk.all) | (with_reducible apply Pk.skip1) | (with_reducible apply Pk.skipB) | (with_reducible apply Sb.skip) | (with_reducible apply Sb.skipB) | ((with_reducible show Ft _ _ _ _); walk_at "ft") | ((with_reducible show (_ : List _) = _); (first | rfl | (simp [List.map_set, List.map_append]; done) | fail)) | fail))
local macro_rules | `(tactic| walk_at "sb") => `(tactic| ((walk_at "sbL"); done))
local macro_rules | `(tactic| walk_at "ps") => `(tactic| ((repeat' (first | (with_reducible exact Ps.refl) | exact Ps.nil | (with_reducible apply Ps.cons) | exact List.Mem.head _ | apply List.Mem.tail | (with_reducible apply Ps.skip) | fail)); done))
set_option hygiene false in
local macro_rules | `(tactic| walk_at "at") => `(tactic| first | assumption | exact Own.raw hO (by walk_at "mem") | exact Own.ptup hO (by walk_at "mem") | exact Own.plst hO (by walk_at "mem") | fail)
set_option hygiene false in
local macro_rules | `(tactic| walk_at "st") => `(tactic| (rw [upd_mkO hO]; generalize e : updX _ _ _ = H1; (first | ((apply Own.cset hO e); (focus walk_at "setat"); (try clear hO e); intro hO) | ((apply Own.cnewT hO e); (focus assumption); (try clear hO e); intro hO) | ((apply Own.cnew hO e); (focus assumption); (try clear hO e); intro hO) | fail)))
set_option hygiene false in
local macro_rules | `(tactic| walk_at "mk") => `(tactic| (intro p1 p2 f1 f2 f3; rw [upd_mkO hO]; generalize e : upd (updX _ _ _) _ _ = H1; apply Own.cmake hO f1 f2 f3 e; (try clear hO e); intro hO))
set_option hygiene false in
local macro_rules | `(tactic| walk_at "own") => `(tactic| (first | ((apply Own.sub hO); (focus walk_at "sb"); (focus walk_at "ps")) | ((apply Own.sub hF); (focus walk_at "sb"); (focus walk_at "ps")) | fail))
set_option hygiene false in
local macro_rules | `(tactic| walk_at "fin") => `(tactic| (refine Own.sub hO ?_ (by walk_at "ps"); walk_at "sbL"))
set_option hygiene false in
local macro_rules | `(tactic| walk_at "g1") => `(tactic| (first
 | ((with_reducible show (_ : Option HO) = _); walk_at "at")
 | ((with_reducible show (_ : Int) < _); omega) | ((with_reducible show (_ : Int) ≤ _); omega)
 | ((with_reducible show (_ : Nat) < _); (first | assumption | exact Nat.le_of_ble_eq_true rfl | exact size_lt (Nat.le_of_ble_eq_true rfl) | omega | (simp; done) | (simp; omega) | fail))
 | ((with_reducible show (_ : Nat) ≤ _); (first | assumption | exact Nat.le_of_ble_eq_true rfl | exact size_le (Nat.le_of_ble_eq_true rfl) | omega | (simp; done) | (simp; omega) | fail))
 | ((with_reducible show (_ : Pf) ∈ _); (first | assumption | (focus walk_at "mem") | ((repeat (with_reducible apply List.mem_cons_of_mem)); assumption) | fail))
 | ((with_reducible show Own _ _ _ _); (first | walk_at "own" | (walk_at "st"; walk_at "own") | fail))
 | ((with_reducible show SqL _ _ _ _); (first | assumption | exact SqL.of (by walk_at "at") | fail))
 | ((with_reducible show SqT _ _ _ _); (first | assumption | exact hO.psq (by walk_at "mem") | exact hO.psq (by assumption) | exact SqT.of (by walk_at "at") | fail))
   | ((with_reducible show V.ref _ = V.ref _); (first | rfl | fail))
 | ((with_reducible show DGet _ _ _ _); (first | exact DGet.ki (by walk_at "at") (by assumption) | exact DGet.kiF (by walk_at "at") (by assumption) | fail))
 | ((with_reducible show DPut _ _ _ _ _); exact DPut.ki (by walk_at "at") (by assumption))
 | ((with_reducible show Rd _ _ _); (first | exact Or.inl (by walk_at "at") | exact Or.inr ⟨_, by walk_at "at"⟩ | fail))
 | ((with_reducible show (∃ _ : List (Key × V), _) ∨ _); refine Or.inl ⟨_, by walk_at "at", ?_⟩)
 | ((with_reducible show Dv _ _ _ _); focus walk_at "dv") | ((with_reducible show Dv1 _ _ _ _); focus walk_at "dv")
 | ((with_reducible show IsD _ _); exact Or.inl ⟨_, Or.inl (by walk_at "at")⟩)
 | ((with_reducible show V.int _ = kV _); exact kV_int)
 | ((with_reducible show Option.isSome _ = true); (first | exact isSome_ofV (by assumption) | assumption | fail))
 | ((with_reducible show SqL _ _ _ _ ∨ SqT _ _ _ _); (first | exact Or.inl (by assumption) | exact Or.inr (by assumption) | exact Or.inl (SqL.of (by walk_at "at")) | exact Or.inr (SqT.of (by walk_at "at")) | fail))
 | ((with_reducible show Dp _ _ _ _); (first | assumption | exact hO.dpL (by walk_at "mem") | exact .lst (SqL.of (by walk_at "at")) (hO.all (by walk_at "dv")) | exact hO.one (by walk_at "dv") | fail))
 | ((with_reducible show TruV _ _ _ _); (first | exact Or.inl ⟨_, SqL.of (by walk_at "at"), rfl⟩ | exact Or.inr (Or.inr ⟨_, by walk_at "at", rfl⟩) | exact Or.inr (Or.inl ⟨_, SqT.of (by walk_at "at"), rfl⟩) | fail))
 | ((with_reducible show RgOk _ _); exact RgOk.of_le (by omega) (by omega) (by omega) (by omega))
 | rfl | (with_reducible assumption) | apply And.intro | apply Exists.intro | refine iteT ?_ | refine iteF ?_
 | (walk_at "st"; (try walk_at "fl"))
 | ((with_reducible show ∀ _ : Addr, _ = none → _); (fail_if_success (with_reducible show ∀ _ : Addr, _ = none → ∃ _ : Nat → Nat → Hp → Prop, _)); intro p fp; walk_at "st")
 | (refine Or.inl ⟨SqL.of (by walk_at "at"), ?_⟩) | (refine Or.inr ⟨SqT.of (by walk_at "at"), ?_⟩) | exact Or.inl ⟨_, by walk_at "at", rfl⟩ | exact Or.inl ⟨rfl, _, SqL.of (by walk_at "at")⟩ | exact tyl_of (by walk_at "at") | exact Or.inl (SqL.of (by walk_at "at")) | exact Or.inr (SqT.of (by walk_at "at")) | exact Or.inl (by walk_at "at") | exact size_le (Nat.le_of_ble_eq_true rfl) | exact Nat.le_of_ble_eq_true rfl | exact True.intro | exact Or.inl rfl | exact Or.inr rfl | (show (_ : Prop); assumption) | (show (_ : Prop); omega) | (show (_ : Prop); dsimp only; omega) | exact mulw64 (by omega) (by omega) | exact mulw64 (by (try dsimp only); omega) (by (try dsimp only); omega) | fail))
local macro_rules | `(tactic| walk_at "go") => `(tactic| repeat walk_at "g1")

section
variable {P : Program} {w : World} {K : PySem.W.Frag} {mg : Str → Option Value} {base : Heap}
def sp_law (K : PySem.W.Frag) : Sp := fun vs H Q _ => ∃ (a : Addr) (ns : List Int), vs = [.ref a] ∧ SqL K H a (ns.map V.int) ∧ ns.length ≤ 63 ∧ ∀ H', Q (.bl true) H'
theorem ok_law (T : Txt w K mg) : FnG P w K mg base 9 T.f_law T.fd_law ["_law_script"] (sp_law K) := by
  have G_Lright := ok_Lright (P := P) (w := w) (base := base) T
  have G_Lpot := ok_Lpot (P := P) (w := w) (base := base) T
  refine fnG T.F_law sc_law (fun vs H Q E h => ?_) (fun cdv A outer s H vs Q E hr hg h => ?_)
  · obtain ⟨a, ns, rfl, hS, hl, k⟩ := h; rfl
  · obtain ⟨a, ns, rfl, hS, hl, k⟩ := h
    refine ⟨_, (pss_one (ps_ret (pe_callG (E := E0) hg G_Lright (hr.mono (by decide)) rfl T.g_Lright T.F_Lright.kp T.b_Lright (pa_cons (pe_call G_Lpot (hr.mono (by decide)) rfl T.g_Lpot T.F_Lpot.kp T.b_Lpot .nil pass0 (pa_cons (pv 0) (pa_cons pe_int pa_nil))) pa_nil)))), ?_⟩
    clear G_Lright G_Lpot
    clear hr hg
    refine ⟨_, rfl, a, ns, rfl, hS, hl, fun p H1 hO => ?_⟩
    exact ⟨p, [], [], rfl, hO, fun H' => k H'⟩
end
end K91

set_option Elab.async false
set_option linter.all false
set_option maxRecDepth 100000
set_option maxHeartbeats 8000000

namespace K91
open PySem PySem.Spec PyProof.Rows L2 Hx
theorem all_mk {l : PySem.W.OpenLaw} {w : World} {K : PySem.W.Frag} {h : Heap} {mg : Str → Option Value} {fa : Addr} (X : K.In h) (G : h.Ns mainGlobals mg) (hfa : mg "law" = some (.ref fa))
    {f_is_integer : Addr} {od_is_integer an_is_integer : Option Addr} {sl_is_integer : Array (Option Value)} {oc_is_integer kV_is_integer dc_is_integer pm_is_integer cd_is_integer ct_is_integer : Value}
    {f_is_between : Addr} {od_is_between an_is_between : Option Addr} {sl_is_between : Array (Option Value)} {oc_is_between kV_is_between dc_is_between pm_is_between cd_is_between ct_is_between : Value}
    {f_is_list : Addr} {od_is_list an_is_list : Option Addr} {sl_is_list : Array (Option Value)} {oc_is_list kV_is_list dc_is_list pm_is_list cd_is_list ct_is_list : Value}
    {f_is_word : Addr} {od_is_word an_is_word : Option Addr} {sl_is_word : Array (Option Value)} {oc_is_word kV_is_word dc_is_word pm_is_word cd_is_word ct_is_word : Value}
    {f_is_address : Addr} {od_is_address an_is_address : Option Addr} {sl_is_address : Array (Option Value)} {oc_is_address kV_is_address dc_is_address pm_is_address cd_is_address ct_is_address : Value}
    {f_is_place : Addr} {od_is_place an_is_place : Option Addr} {sl_is_place : Array (Option Value)} {oc_is_place kV_is_place dc_is_place pm_is_place cd_is_place ct_is_place : Value}
    {f_is_register : Addr} {od_is_register an_is_register : Option Addr} {sl_is_register : Array (Option Value)} {oc_is_register kV_is_register dc_is_register pm_is_register cd_is_register ct_is_register : Value}
    {f_is_row : Addr} {od_is_row an_is_row : Option Addr} {sl_is_row : Array (Option Value)} {oc_is_row kV_is_row dc_is_row pm_is_row cd_is_row ct_is_row : Value}
    {f_are_rows : Addr} {od_are_rows an_are_rows : Option Addr} {sl_are_rows : Array (Option Value)} {oc_are_rows kV_are_rows dc_are_rows pm_are_rows cd_are_rows ct_are_rows : Value}
    {f_need_row : Addr} {od_need_row an_need_row : Option Addr} {sl_need_row : Array (Option Value)} {oc_need_row kV_need_row dc_need_row pm_need_row cd_need_row ct_need_row : Value}
    {f_need_row_list : Addr} {od_need_row_list an_need_row_list : Option Addr} {sl_need_row_list : Array (Option Value)} {oc_need_row_list kV_need_row_list dc_need_row_list pm_need_row_list cd_need_row_list ct_need_row_list : Value}
    {f_is_point : Addr} {od_is_point an_is_point : Option Addr} {sl_is_point : Array (Option Value)} {oc_is_point kV_is_point dc_is_point pm_is_point cd_is_point ct_is_point : Value}
    {f_need_point : Addr} {od_need_point an_need_point : Option Addr} {sl_need_point : Array (Option Value)} {oc_need_point kV_need_point dc_need_point pm_need_point cd_need_point ct_need_point : Value}
    {f_meets : Addr} {od_meets an_meets : Option Addr} {sl_meets : Array (Option Value)} {oc_meets kV_meets dc_meets pm_meets cd_meets ct_meets : Value}
    {f_first_met : Addr} {od_first_met an_first_met : Option Addr} {sl_first_met : Array (Option Value)} {oc_first_met kV_first_met dc_first_met pm_first_met cd_first_met ct_first_met : Value}
    {f__meets : Addr} {od__meets an__meets : Option Addr} {sl__meets : Array (Option Value)} {oc__meets kV__meets dc__meets pm__meets cd__meets ct__meets : Value}
    {f_Lpot : Addr} {od_Lpot an_Lpot : Option Addr} {sl_Lpot : Array (Option Value)} {oc_Lpot kV_Lpot dc_Lpot pm_Lpot cd_Lpot ct_Lpot : Value}
    {f_Ldraw : Addr} {od_Ldraw an_Ldraw : Option Addr} {sl_Ldraw : Array (Option Value)} {oc_Ldraw kV_Ldraw dc_Ldraw pm_Ldraw cd_Ldraw ct_Ldraw : Value}
    {f_Lpick : Addr} {od_Lpick an_Lpick : Option Addr} {sl_Lpick : Array (Option Value)} {oc_Lpick kV_Lpick dc_Lpick pm_Lpick cd_Lpick ct_Lpick : Value}
    {f_Lmeets : Addr} {od_Lmeets an_Lmeets : Option Addr} {sl_Lmeets : Array (Option Value)} {oc_Lmeets kV_Lmeets dc_Lmeets pm_Lmeets cd_Lmeets ct_Lmeets : Value}
    {f_Lfirst : Addr} {od_Lfirst an_Lfirst : Option Addr} {sl_Lfirst : Array (Option Value)} {oc_Lfirst kV_Lfirst dc_Lfirst pm_Lfirst cd_Lfirst ct_Lfirst : Value}
    {f_Lis_count : Addr} {od_Lis_count an_Lis_count : Option Addr} {sl_Lis_count : Array (Option Value)} {oc_Lis_count kV_Lis_count dc_Lis_count pm_Lis_count cd_Lis_count ct_Lis_count : Value}
    {f_Lis_point : Addr} {od_Lis_point an_Lis_point : Option Addr} {sl_Lis_point : Array (Option Value)} {oc_Lis_point kV_Lis_point dc_Lis_point pm_Lis_point cd_Lis_point ct_Lis_point : Value}
    {f_Lare_two : Addr} {od_Lare_two an_Lare_two : Option Addr} {sl_Lare_two : Array (Option Value)} {oc_Lare_two kV_Lare_two dc_Lare_two pm_Lare_two cd_Lare_two ct_Lare_two : Value}
    {f_Lis_row : Addr} {od_Lis_row an_Lis_row : Option Addr} {sl_Lis_row : Array (Option Value)} {oc_Lis_row kV_Lis_row dc_Lis_row pm_Lis_row cd_Lis_row ct_Lis_row : Value}
    {f_Lpoint : Addr} {od_Lpoint an_Lpoint : Option Addr} {sl_Lpoint : Array (Option Value)} {oc_Lpoint kV_Lpoint dc_Lpoint pm_Lpoint cd_Lpoint ct_Lpoint : Value}
    {f_Lrow : Addr} {od_Lrow an_Lrow : Option Addr} {sl_Lrow : Array (Option Value)} {oc_Lrow kV_Lrow dc_Lrow pm_Lrow cd_Lrow ct_Lrow : Value}
    {f_Lbent : Addr} {od_Lbent an_Lbent : Option Addr} {sl_Lbent : Array (Option Value)} {oc_Lbent kV_Lbent dc_Lbent pm_Lbent cd_Lbent ct_Lbent : Value}
    {f_Lright : Addr} {od_Lright an_Lright : Option Addr} {sl_Lright : Array (Option Value)} {oc_Lright kV_Lright dc_Lright pm_Lright cd_Lright ct_Lright : Value}
    {f_law : Addr} {od_law an_law : Option Addr} {sl_law : Array (Option Value)} {oc_law kV_law dc_law pm_law cd_law ct_law : Value}
    {t_WORDS : Tok}
    {t_ADDRESSES : Tok}
    {t_PLACES : Tok}
    {t_REGISTERS : Tok}
    {t__ROW_PARTS : Tok}
    {t__GREATEST_CAUSE : Tok}
    {D_ki : Addr} {es_ki : Array DictEntry} {nn_ki : Nat}
    (a_is_integer : PySem.W.nsIn K mainGlobals "is_integer" = some (some (.ref f_is_integer)))
    (l_is_integer : K.lookup f_is_integer = some ⟨oc_is_integer, od_is_integer, .func (PySem.W.fnOf "is_integer" "is_integer" (defArgs s_is_integer) (defBody s_is_integer) (defScope s_is_integer) .none kV_is_integer dc_is_integer pm_is_integer an_is_integer cd_is_integer ct_is_integer), sl_is_integer⟩)
    (c_is_integer : PySem.W.codeIn K cd_is_integer "is_integer" = true) (k_is_integer : PySem.W.keepIn K (.ref f_is_integer) = true)
    (a_is_between : PySem.W.nsIn K mainGlobals "is_between" = some (some (.ref f_is_between)))
    (l_is_between : K.lookup f_is_between = some ⟨oc_is_between, od_is_between, .func (PySem.W.fnOf "is_between" "is_between" (defArgs s_is_between) (defBody s_is_between) (defScope s_is_between) .none kV_is_between dc_is_between pm_is_between an_is_between cd_is_between ct_is_between), sl_is_between⟩)
    (c_is_between : PySem.W.codeIn K cd_is_between "is_between" = true) (k_is_between : PySem.W.keepIn K (.ref f_is_between) = true)
    (a_is_list : PySem.W.nsIn K mainGlobals "is_list" = some (some (.ref f_is_list)))
    (l_is_list : K.lookup f_is_list = some ⟨oc_is_list, od_is_list, .func (PySem.W.fnOf "is_list" "is_list" (defArgs s_is_list) (defBody s_is_list) (defScope s_is_list) .none kV_is_list dc_is_list pm_is_list an_is_list cd_is_list ct_is_list), sl_is_list⟩)
    (c_is_list : PySem.W.codeIn K cd_is_list "is_list" = true) (k_is_list : PySem.W.keepIn K (.ref f_is_list) = true)
    (a_is_word : PySem.W.nsIn K mainGlobals "is_word" = some (some (.ref f_is_word)))
    (l_is_word : K.lookup f_is_word = some ⟨oc_is_word, od_is_word, .func (PySem.W.fnOf "is_word" "is_word" (defArgs s_is_word) (defBody s_is_word) (defScope s_is_word) .none kV_is_word dc_is_word pm_is_word an_is_word cd_is_word ct_is_word), sl_is_word⟩)
    (c_is_word : PySem.W.codeIn K cd_is_word "is_word" = true) (k_is_word : PySem.W.keepIn K (.ref f_is_word) = true)
    (a_is_address : PySem.W.nsIn K mainGlobals "is_address" = some (some (.ref f_is_address)))
    (l_is_address : K.lookup f_is_address = some ⟨oc_is_address, od_is_address, .func (PySem.W.fnOf "is_address" "is_address" (defArgs s_is_address) (defBody s_is_address) (defScope s_is_address) .none kV_is_address dc_is_address pm_is_address an_is_address cd_is_address ct_is_address), sl_is_address⟩)
    (c_is_address : PySem.W.codeIn K cd_is_address "is_address" = true) (k_is_address : PySem.W.keepIn K (.ref f_is_address) = true)
    (a_is_place : PySem.W.nsIn K mainGlobals "is_place" = some (some (.ref f_is_place)))
    (l_is_place : K.lookup f_is_place = some ⟨oc_is_place, od_is_place, .func (PySem.W.fnOf "is_place" "is_place" (defArgs s_is_place) (defBody s_is_place) (defScope s_is_place) .none kV_is_place dc_is_place pm_is_place an_is_place cd_is_place ct_is_place), sl_is_place⟩)
    (c_is_place : PySem.W.codeIn K cd_is_place "is_place" = true) (k_is_place : PySem.W.keepIn K (.ref f_is_place) = true)
    (a_is_register : PySem.W.nsIn K mainGlobals "is_register" = some (some (.ref f_is_register)))
    (l_is_register : K.lookup f_is_register = some ⟨oc_is_register, od_is_register, .func (PySem.W.fnOf "is_register" "is_register" (defArgs s_is_register) (defBody s_is_register) (defScope s_is_register) .none kV_is_register dc_is_register pm_is_register an_is_register cd_is_register ct_is_register), sl_is_register⟩)
    (c_is_register : PySem.W.codeIn K cd_is_register "is_register" = true) (k_is_register : PySem.W.keepIn K (.ref f_is_register) = true)
    (a_is_row : PySem.W.nsIn K mainGlobals "is_row" = some (some (.ref f_is_row)))
    (l_is_row : K.lookup f_is_row = some ⟨oc_is_row, od_is_row, .func (PySem.W.fnOf "is_row" "is_row" (defArgs s_is_row) (defBody s_is_row) (defScope s_is_row) .none kV_is_row dc_is_row pm_is_row an_is_row cd_is_row ct_is_row), sl_is_row⟩)
    (c_is_row : PySem.W.codeIn K cd_is_row "is_row" = true) (k_is_row : PySem.W.keepIn K (.ref f_is_row) = true)
    (a_are_rows : PySem.W.nsIn K mainGlobals "are_rows" = some (some (.ref f_are_rows)))
    (l_are_rows : K.lookup f_are_rows = some ⟨oc_are_rows, od_are_rows, .func (PySem.W.fnOf "are_rows" "are_rows" (defArgs s_are_rows) (defBody s_are_rows) (defScope s_are_rows) .none kV_are_rows dc_are_rows pm_are_rows an_are_rows cd_are_rows ct_are_rows), sl_are_rows⟩)
    (c_are_rows : PySem.W.codeIn K cd_are_rows "are_rows" = true) (k_are_rows : PySem.W.keepIn K (.ref f_are_rows) = true)
    (a_need_row : PySem.W.nsIn K mainGlobals "need_row" = some (some (.ref f_need_row)))
    (l_need_row : K.lookup f_need_row = some ⟨oc_need_row, od_need_row, .func (PySem.W.fnOf "need_row" "need_row" (defArgs s_need_row) (defBody s_need_row) (defScope s_need_row) .none kV_need_row dc_need_row pm_need_row an_need_row cd_need_row ct_need_row), sl_need_row⟩)
    (c_need_row : PySem.W.codeIn K cd_need_row "need_row" = true) (k_need_row : PySem.W.keepIn K (.ref f_need_row) = true)
    (a_need_row_list : PySem.W.nsIn K mainGlobals "need_row_list" = some (some (.ref f_need_row_list)))
    (l_need_row_list : K.lookup f_need_row_list = some ⟨oc_need_row_list, od_need_row_list, .func (PySem.W.fnOf "need_row_list" "need_row_list" (defArgs s_need_row_list) (defBody s_need_row_list) (defScope s_need_row_list) .none kV_need_row_list dc_need_row_list pm_need_row_list an_need_row_list cd_need_row_list ct_need_row_list), sl_need_row_list⟩)
    (c_need_row_list : PySem.W.codeIn K cd_need_row_list "need_row_list" = true) (k_need_row_list : PySem.W.keepIn K (.ref f_need_row_list) = true)
    (a_is_point : PySem.W.nsIn K mainGlobals "is_point" = some (some (.ref f_is_point)))
    (l_is_point : K.lookup f_is_point = some ⟨oc_is_point, od_is_point, .func (PySem.W.fnOf "is_point" "is_point" (defArgs s_is_point) (defBody s_is_point) (defScope s_is_point) .none kV_is_point dc_is_point pm_is_point an_is_point cd_is_point ct_is_point), sl_is_point⟩)
    (c_is_point : PySem.W.codeIn K cd_is_point "is_point" = true) (k_is_point : PySem.W.keepIn K (.ref f_is_point) = true)
    (a_need_point : PySem.W.nsIn K mainGlobals "need_point" = some (some (.ref f_need_point)))
    (l_need_point : K.lookup f_need_point = some ⟨oc_need_point, od_need_point, .func (PySem.W.fnOf "need_point" "need_point" (defArgs s_need_point) (defBody s_need_point) (defScope s_need_point) .none kV_need_point dc_need_point pm_need_point an_need_point cd_need_point ct_need_point), sl_need_point⟩)
    (c_need_point : PySem.W.codeIn K cd_need_point "need_point" = true) (k_need_point : PySem.W.keepIn K (.ref f_need_point) = true)
    (a_meets : PySem.W.nsIn K mainGlobals "meets" = some (some (.ref f_meets)))
    (l_meets : K.lookup f_meets = some ⟨oc_meets, od_meets, .func (PySem.W.fnOf "meets" "meets" (defArgs s_meets) (defBody s_meets) (defScope s_meets) .none kV_meets dc_meets pm_meets an_meets cd_meets ct_meets), sl_meets⟩)
    (c_meets : PySem.W.codeIn K cd_meets "meets" = true) (k_meets : PySem.W.keepIn K (.ref f_meets) = true)
    (a_first_met : PySem.W.nsIn K mainGlobals "first_met" = some (some (.ref f_first_met)))
    (l_first_met : K.lookup f_first_met = some ⟨oc_first_met, od_first_met, .func (PySem.W.fnOf "first_met" "first_met" (defArgs s_first_met) (defBody s_first_met) (defScope s_first_met) .none kV_first_met dc_first_met pm_first_met an_first_met cd_first_met ct_first_met), sl_first_met⟩)
    (c_first_met : PySem.W.codeIn K cd_first_met "first_met" = true) (k_first_met : PySem.W.keepIn K (.ref f_first_met) = true)
    (a__meets : PySem.W.nsIn K mainGlobals "_meets" = some (some (.ref f__meets)))
    (l__meets : K.lookup f__meets = some ⟨oc__meets, od__meets, .func (PySem.W.fnOf "_meets" "_meets" (defArgs s__meets) (defBody s__meets) (defScope s__meets) .none kV__meets dc__meets pm__meets an__meets cd__meets ct__meets), sl__meets⟩)
    (c__meets : PySem.W.codeIn K cd__meets "_meets" = true) (k__meets : PySem.W.keepIn K (.ref f__meets) = true)
    (a_Lpot : PySem.W.nsIn K mainGlobals "_law_pot" = some (some (.ref f_Lpot)))
    (l_Lpot : K.lookup f_Lpot = some ⟨oc_Lpot, od_Lpot, .func (PySem.W.fnOf "_law_pot" "_law_pot" (defArgs s_Lpot) (defBody s_Lpot) (defScope s_Lpot) .none kV_Lpot dc_Lpot pm_Lpot an_Lpot cd_Lpot ct_Lpot), sl_Lpot⟩)
    (c_Lpot : PySem.W.codeIn K cd_Lpot "_law_pot" = true) (k_Lpot : PySem.W.keepIn K (.ref f_Lpot) = true)
    (a_Ldraw : PySem.W.nsIn K mainGlobals "_law_draw" = some (some (.ref f_Ldraw)))
    (l_Ldraw : K.lookup f_Ldraw = some ⟨oc_Ldraw, od_Ldraw, .func (PySem.W.fnOf "_law_draw" "_law_draw" (defArgs s_Ldraw) (defBody s_Ldraw) (defScope s_Ldraw) .none kV_Ldraw dc_Ldraw pm_Ldraw an_Ldraw cd_Ldraw ct_Ldraw), sl_Ldraw⟩)
    (c_Ldraw : PySem.W.codeIn K cd_Ldraw "_law_draw" = true) (k_Ldraw : PySem.W.keepIn K (.ref f_Ldraw) = true)
    (a_Lpick : PySem.W.nsIn K mainGlobals "_law_pick" = some (some (.ref f_Lpick)))
    (l_Lpick : K.lookup f_Lpick = some ⟨oc_Lpick, od_Lpick, .func (PySem.W.fnOf "_law_pick" "_law_pick" (defArgs s_Lpick) (defBody s_Lpick) (defScope s_Lpick) .none kV_Lpick dc_Lpick pm_Lpick an_Lpick cd_Lpick ct_Lpick), sl_Lpick⟩)
    (c_Lpick : PySem.W.codeIn K cd_Lpick "_law_pick" = true) (k_Lpick : PySem.W.keepIn K (.ref f_Lpick) = true)
    (a_Lmeets : PySem.W.nsIn K mainGlobals "_law_meets" = some (some (.ref f_Lmeets)))
    (l_Lmeets : K.lookup f_Lmeets = some ⟨oc_Lmeets, od_Lmeets, .func (PySem.W.fnOf "_law_meets" "_law_meets" (defArgs s_Lmeets) (defBody s_Lmeets) (defScope s_Lmeets) .none kV_Lmeets dc_Lmeets pm_Lmeets an_Lmeets cd_Lmeets ct_Lmeets), sl_Lmeets⟩)
    (c_Lmeets : PySem.W.codeIn K cd_Lmeets "_law_meets" = true) (k_Lmeets : PySem.W.keepIn K (.ref f_Lmeets) = true)
    (a_Lfirst : PySem.W.nsIn K mainGlobals "_law_first" = some (some (.ref f_Lfirst)))
    (l_Lfirst : K.lookup f_Lfirst = some ⟨oc_Lfirst, od_Lfirst, .func (PySem.W.fnOf "_law_first" "_law_first" (defArgs s_Lfirst) (defBody s_Lfirst) (defScope s_Lfirst) .none kV_Lfirst dc_Lfirst pm_Lfirst an_Lfirst cd_Lfirst ct_Lfirst), sl_Lfirst⟩)
    (c_Lfirst : PySem.W.codeIn K cd_Lfirst "_law_first" = true) (k_Lfirst : PySem.W.keepIn K (.ref f_Lfirst) = true)
    (a_Lis_count : PySem.W.nsIn K mainGlobals "_law_is_count" = some (some (.ref f_Lis_count)))
    (l_Lis_count : K.lookup f_Lis_count = some ⟨oc_Lis_count, od_Lis_count, .func (PySem.W.fnOf "_law_is_count" "_law_is_count" (defArgs s_Lis_count) (defBody s_Lis_count) (defScope s_Lis_count) .none kV_Lis_count dc_Lis_count pm_Lis_count an_Lis_count cd_Lis_count ct_Lis_count), sl_Lis_count⟩)
    (c_Lis_count : PySem.W.codeIn K cd_Lis_count "_law_is_count" = true) (k_Lis_count : PySem.W.keepIn K (.ref f_Lis_count) = true)
    (a_Lis_point : PySem.W.nsIn K mainGlobals "_law_is_point" = some (some (.ref f_Lis_point)))
    (l_Lis_point : K.lookup f_Lis_point = some ⟨oc_Lis_point, od_Lis_point, .func (PySem.W.fnOf "_law_is_point" "_law_is_point" (defArgs s_Lis_point) (defBody s_Lis_point) (defScope s_Lis_point) .none kV_Lis_point dc_Lis_point pm_Lis_point an_Lis_point cd_Lis_point ct_Lis_point), sl_Lis_point⟩)
    (c_Lis_point : PySem.W.codeIn K cd_Lis_point "_law_is_point" = true) (k_Lis_point : PySem.W.keepIn K (.ref f_Lis_point) = true)
    (a_Lare_two : PySem.W.nsIn K mainGlobals "_law_are_two" = some (some (.ref f_Lare_two)))
    (l_Lare_two : K.lookup f_Lare_two = some ⟨oc_Lare_two, od_Lare_two, .func (PySem.W.fnOf "_law_are_two" "_law_are_two" (defArgs s_Lare_two) (defBody s_Lare_two) (defScope s_Lare_two) .none kV_Lare_two dc_Lare_two pm_Lare_two an_Lare_two cd_Lare_two ct_Lare_two), sl_Lare_two⟩)
    (c_Lare_two : PySem.W.codeIn K cd_Lare_two "_law_are_two" = true) (k_Lare_two : PySem.W.keepIn K (.ref f_Lare_two) = true)
    (a_Lis_row : PySem.W.nsIn K mainGlobals "_law_is_row" = some (some (.ref f_Lis_row)))
    (l_Lis_row : K.lookup f_Lis_row = some ⟨oc_Lis_row, od_Lis_row, .func (PySem.W.fnOf "_law_is_row" "_law_is_row" (defArgs s_Lis_row) (defBody s_Lis_row) (defScope s_Lis_row) .none kV_Lis_row dc_Lis_row pm_Lis_row an_Lis_row cd_Lis_row ct_Lis_row), sl_Lis_row⟩)
    (c_Lis_row : PySem.W.codeIn K cd_Lis_row "_law_is_row" = true) (k_Lis_row : PySem.W.keepIn K (.ref f_Lis_row) = true)
    (a_Lpoint : PySem.W.nsIn K mainGlobals "_law_point" = some (some (.ref f_Lpoint)))
    (l_Lpoint : K.lookup f_Lpoint = some ⟨oc_Lpoint, od_Lpoint, .func (PySem.W.fnOf "_law_point" "_law_point" (defArgs s_Lpoint) (defBody s_Lpoint) (defScope s_Lpoint) .none kV_Lpoint dc_Lpoint pm_Lpoint an_Lpoint cd_Lpoint ct_Lpoint), sl_Lpoint⟩)
    (c_Lpoint : PySem.W.codeIn K cd_Lpoint "_law_point" = true) (k_Lpoint : PySem.W.keepIn K (.ref f_Lpoint) = true)
    (a_Lrow : PySem.W.nsIn K mainGlobals "_law_row" = some (some (.ref f_Lrow)))
    (l_Lrow : K.lookup f_Lrow = some ⟨oc_Lrow, od_Lrow, .func (PySem.W.fnOf "_law_row" "_law_row" (defArgs s_Lrow) (defBody s_Lrow) (defScope s_Lrow) .none kV_Lrow dc_Lrow pm_Lrow an_Lrow cd_Lrow ct_Lrow), sl_Lrow⟩)
    (c_Lrow : PySem.W.codeIn K cd_Lrow "_law_row" = true) (k_Lrow : PySem.W.keepIn K (.ref f_Lrow) = true)
    (a_Lbent : PySem.W.nsIn K mainGlobals "_law_bent" = some (some (.ref f_Lbent)))
    (l_Lbent : K.lookup f_Lbent = some ⟨oc_Lbent, od_Lbent, .func (PySem.W.fnOf "_law_bent" "_law_bent" (defArgs s_Lbent) (defBody s_Lbent) (defScope s_Lbent) .none kV_Lbent dc_Lbent pm_Lbent an_Lbent cd_Lbent ct_Lbent), sl_Lbent⟩)
    (c_Lbent : PySem.W.codeIn K cd_Lbent "_law_bent" = true) (k_Lbent : PySem.W.keepIn K (.ref f_Lbent) = true)
    (a_Lright : PySem.W.nsIn K mainGlobals "_law_right" = some (some (.ref f_Lright)))
    (l_Lright : K.lookup f_Lright = some ⟨oc_Lright, od_Lright, .func (PySem.W.fnOf "_law_right" "_law_right" (defArgs s_Lright) (defBody s_Lright) (defScope s_Lright) .none kV_Lright dc_Lright pm_Lright an_Lright cd_Lright ct_Lright), sl_Lright⟩)
    (c_Lright : PySem.W.codeIn K cd_Lright "_law_right" = true) (k_Lright : PySem.W.keepIn K (.ref f_Lright) = true)
    (a_law : PySem.W.nsIn K mainGlobals "law" = some (some (.ref f_law)))
    (l_law : K.lookup f_law = some ⟨oc_law, od_law, .func (PySem.W.fnOf "law" "law" (defArgs s_law) (defBody s_law) (defScope s_law) .none kV_law dc_law pm_law an_law cd_law ct_law), sl_law⟩)
    (c_law : PySem.W.codeIn K cd_law "law" = true) (k_law : PySem.W.keepIn K (.ref f_law) = true)
    (z_abs : PySem.W.nsIn K mainGlobals "abs" = some none)
    (z_all : PySem.W.nsIn K mainGlobals "all" = some none)
    (z_bool : PySem.W.nsIn K mainGlobals "bool" = some none)
    (z_divmod : PySem.W.nsIn K mainGlobals "divmod" = some none)
    (z_enumerate : PySem.W.nsIn K mainGlobals "enumerate" = some none)
    (z_int : PySem.W.nsIn K mainGlobals "int" = some none)
    (z_isinstance : PySem.W.nsIn K mainGlobals "isinstance" = some none)
    (z_len : PySem.W.nsIn K mainGlobals "len" = some none)
    (z_list : PySem.W.nsIn K mainGlobals "list" = some none)
    (z_max : PySem.W.nsIn K mainGlobals "max" = some none)
    (z_range : PySem.W.nsIn K mainGlobals "range" = some none)
    (z_repr : PySem.W.nsIn K mainGlobals "repr" = some none)
    (z_str : PySem.W.nsIn K mainGlobals "str" = some none)
    (z_tuple : PySem.W.nsIn K mainGlobals "tuple" = some none)
    (x_WORDS : PySem.W.nsIn K mainGlobals "WORDS" = some (some (.int 65536 t_WORDS)))
    (x_ADDRESSES : PySem.W.nsIn K mainGlobals "ADDRESSES" = some (some (.int 4096 t_ADDRESSES)))
    (x_PLACES : PySem.W.nsIn K mainGlobals "PLACES" = some (some (.int 1024 t_PLACES)))
    (x_REGISTERS : PySem.W.nsIn K mainGlobals "REGISTERS" = some (some (.int 8 t_REGISTERS)))
    (x__ROW_PARTS : PySem.W.nsIn K mainGlobals "_ROW_PARTS" = some (some (.int 7 t__ROW_PARTS)))
    (x__GREATEST_CAUSE : PySem.W.nsIn K mainGlobals "_GREATEST_CAUSE" = some (some (.int 31 t__GREATEST_CAUSE)))
    (a_ki : PySem.W.nsIn K mainGlobals "_KINDS" = some (some (.ref D_ki))) (l_ki : K.lookup D_ki = some ⟨.type "dict", none, .dict es_ki nn_ki, #[]⟩) (y_ki : PySem.W.KeysLit w.params es_ki.toList) (w_ki : (D_ki == sysModules) = false) (o_ki : tbOk K D_ki kiT = true) (n_ki : tbNo K D_ki kiNo = true)
    : ∃ fd : FuncData, (∀ (s : Shared) (v : Value), BindsTo s fd ⟨[v], []⟩ [("_law_script", v)]) ∧ ∀ base : Heap, K.In base → base.Ns mainGlobals mg → FnG l.prog w K mg base 9 fa fd ["_law_script"] (sp_law K) := by
  have e := hfa.symm.trans (PySem.W.mg_of X G a_law)
  cases e
  let T : Txt w K mg := {
    f_is_integer := _, fd_is_integer := _, F_is_integer := fun_mk (st := s_is_integer) l_is_integer c_is_integer k_is_integer,
    g_is_integer := PySem.W.mg_of X G a_is_integer,
    b_is_integer := (fun_mk (st := s_is_integer) l_is_integer c_is_integer k_is_integer).binds (ps := ["value"]) fun _ _ _ _ _ _ us hl => match us, hl with | [_], _ => rfl,
    f_is_between := _, fd_is_between := _, F_is_between := fun_mk (st := s_is_between) l_is_between c_is_between k_is_between,
    g_is_between := PySem.W.mg_of X G a_is_between,
    b_is_between := (fun_mk (st := s_is_between) l_is_between c_is_between k_is_between).binds (ps := ["value", "least", "most"]) fun _ _ _ _ _ _ us hl => match us, hl with | [_, _, _], _ => rfl,
    f_is_list := _, fd_is_list := _, F_is_list := fun_mk (st := s_is_list) l_is_list c_is_list k_is_list,
    g_is_list := PySem.W.mg_of X G a_is_list,
    b_is_list := (fun_mk (st := s_is_list) l_is_list c_is_list k_is_list).binds (ps := ["value"]) fun _ _ _ _ _ _ us hl => match us, hl with | [_], _ => rfl,
    f_is_word := _, fd_is_word := _, F_is_word := fun_mk (st := s_is_word) l_is_word c_is_word k_is_word,
    g_is_word := PySem.W.mg_of X G a_is_word,
    b_is_word := (fun_mk (st := s_is_word) l_is_word c_is_word k_is_word).binds (ps := ["value"]) fun _ _ _ _ _ _ us hl => match us, hl with | [_], _ => rfl,
    f_is_address := _, fd_is_address := _, F_is_address := fun_mk (st := s_is_address) l_is_address c_is_address k_is_address,
    g_is_address := PySem.W.mg_of X G a_is_address,
    b_is_address := (fun_mk (st := s_is_address) l_is_address c_is_address k_is_address).binds (ps := ["value"]) fun _ _ _ _ _ _ us hl => match us, hl with | [_], _ => rfl,
    f_is_place := _, fd_is_place := _, F_is_place := fun_mk (st := s_is_place) l_is_place c_is_place k_is_place,
    g_is_place := PySem.W.mg_of X G a_is_place,
    b_is_place := (fun_mk (st := s_is_place) l_is_place c_is_place k_is_place).binds (ps := ["value"]) fun _ _ _ _ _ _ us hl => match us, hl with | [_], _ => rfl,
    f_is_register := _, fd_is_register := _, F_is_register := fun_mk (st := s_is_register) l_is_register c_is_register k_is_register,
    g_is_register := PySem.W.mg_of X G a_is_register,
    b_is_register := (fun_mk (st := s_is_register) l_is_register c_is_register k_is_register).binds (ps := ["value"]) fun _ _ _ _ _ _ us hl => match us, hl with | [_], _ => rfl,
    f_is_row := _, fd_is_row := _, F_is_row := fun_mk (st := s_is_row) l_is_row c_is_row k_is_row,
    g_is_row := PySem.W.mg_of X G a_is_row,
    b_is_row := (fun_mk (st := s_is_row) l_is_row c_is_row k_is_row).binds (ps := ["value"]) fun _ _ _ _ _ _ us hl => match us, hl with | [_], _ => rfl,
    kb_is_row := kw_binds (fun_mk (st := s_is_row) l_is_row c_is_row k_is_row) (by decide) fun _ _ _ _ _ _ us hl => match us, hl with | [_], _ => rfl,
    f_are_rows := _, fd_are_rows := _, F_are_rows := fun_mk (st := s_are_rows) l_are_rows c_are_rows k_are_rows,
    g_are_rows := PySem.W.mg_of X G a_are_rows,
    b_are_rows := (fun_mk (st := s_are_rows) l_are_rows c_are_rows k_are_rows).binds (ps := ["value"]) fun _ _ _ _ _ _ us hl => match us, hl with | [_], _ => rfl,
    f_need_row := _, fd_need_row := _, F_need_row := fun_mk (st := s_need_row) l_need_row c_need_row k_need_row,
    g_need_row := PySem.W.mg_of X G a_need_row,
    b_need_row := (fun_mk (st := s_need_row) l_need_row c_need_row k_need_row).binds (ps := ["value"]) fun _ _ _ _ _ _ us hl => match us, hl with | [_], _ => rfl,
    f_need_row_list := _, fd_need_row_list := _, F_need_row_list := fun_mk (st := s_need_row_list) l_need_row_list c_need_row_list k_need_row_list,
    g_need_row_list := PySem.W.mg_of X G a_need_row_list,
    b_need_row_list := (fun_mk (st := s_need_row_list) l_need_row_list c_need_row_list k_need_row_list).binds (ps := ["value"]) fun _ _ _ _ _ _ us hl => match us, hl with | [_], _ => rfl,
    f_is_point := _, fd_is_point := _, F_is_point := fun_mk (st := s_is_point) l_is_point c_is_point k_is_point,
    g_is_point := PySem.W.mg_of X G a_is_point,
    b_is_point := (fun_mk (st := s_is_point) l_is_point c_is_point k_is_point).binds (ps := ["value"]) fun _ _ _ _ _ _ us hl => match us, hl with | [_], _ => rfl,
    kb_is_point := kw_binds (fun_mk (st := s_is_point) l_is_point c_is_point k_is_point) (by decide) fun _ _ _ _ _ _ us hl => match us, hl with | [_], _ => rfl,
    f_need_point := _, fd_need_point := _, F_need_point := fun_mk (st := s_need_point) l_need_point c_need_point k_need_point,
    g_need_point := PySem.W.mg_of X G a_need_point,
    b_need_point := (fun_mk (st := s_need_point) l_need_point c_need_point k_need_point).binds (ps := ["value"]) fun _ _ _ _ _ _ us hl => match us, hl with | [_], _ => rfl,
    f_meets := _, fd_meets := _, F_meets := fun_mk (st := s_meets) l_meets c_meets k_meets,
    g_meets := PySem.W.mg_of X G a_meets,
    b_meets := (fun_mk (st := s_meets) l_meets c_meets k_meets).binds (ps := ["point", "row"]) fun _ _ _ _ _ _ us hl => match us, hl with | [_, _], _ => rfl,
    kp_meets_0_10 := kw_bindsP (fun_mk (st := s_meets) l_meets c_meets k_meets) (by decide) fun _ _ _ _ _ _ us ws h1 h2 => match us, ws, h1, h2 with | [], [_, _], _, _ => rfl,
    f_first_met := _, fd_first_met := _, F_first_met := fun_mk (st := s_first_met) l_first_met c_first_met k_first_met,
    g_first_met := PySem.W.mg_of X G a_first_met,
    b_first_met := (fun_mk (st := s_first_met) l_first_met c_first_met k_first_met).binds (ps := ["points", "rows"]) fun _ _ _ _ _ _ us hl => match us, hl with | [_, _], _ => rfl,
    kp_first_met_0_10 := kw_bindsP (fun_mk (st := s_first_met) l_first_met c_first_met k_first_met) (by decide) fun _ _ _ _ _ _ us ws h1 h2 => match us, ws, h1, h2 with | [], [_, _], _, _ => rfl,
    f__meets := _, fd__meets := _, F__meets := fun_mk (st := s__meets) l__meets c__meets k__meets,
    g__meets := PySem.W.mg_of X G a__meets,
    b__meets := (fun_mk (st := s__meets) l__meets c__meets k__meets).binds (ps := ["point", "row"]) fun _ _ _ _ _ _ us hl => match us, hl with | [_, _], _ => rfl,
    f_Lpot := _, fd_Lpot := _, F_Lpot := fun_mk (st := s_Lpot) l_Lpot c_Lpot k_Lpot,
    g_Lpot := PySem.W.mg_of X G a_Lpot,
    b_Lpot := (fun_mk (st := s_Lpot) l_Lpot c_Lpot k_Lpot).binds (ps := ["_law_script", "_law_k"]) fun _ _ _ _ _ _ us hl => match us, hl with | [_, _], _ => rfl,
    f_Ldraw := _, fd_Ldraw := _, F_Ldraw := fun_mk (st := s_Ldraw) l_Ldraw c_Ldraw k_Ldraw,
    g_Ldraw := PySem.W.mg_of X G a_Ldraw,
    b_Ldraw := (fun_mk (st := s_Ldraw) l_Ldraw c_Ldraw k_Ldraw).binds (ps := ["_law_pot_here", "_law_many"]) fun _ _ _ _ _ _ us hl => match us, hl with | [_, _], _ => rfl,
    f_Lpick := _, fd_Lpick := _, F_Lpick := fun_mk (st := s_Lpick) l_Lpick c_Lpick k_Lpick,
    g_Lpick := PySem.W.mg_of X G a_Lpick,
    b_Lpick := (fun_mk (st := s_Lpick) l_Lpick c_Lpick k_Lpick).binds (ps := ["_law_pot_here", "_law_some"]) fun _ _ _ _ _ _ us hl => match us, hl with | [_, _], _ => rfl,
    f_Lmeets := _, fd_Lmeets := _, F_Lmeets := fun_mk (st := s_Lmeets) l_Lmeets c_Lmeets k_Lmeets,
    g_Lmeets := PySem.W.mg_of X G a_Lmeets,
    b_Lmeets := (fun_mk (st := s_Lmeets) l_Lmeets c_Lmeets k_Lmeets).binds (ps := ["_law_point_here", "_law_row_here"]) fun _ _ _ _ _ _ us hl => match us, hl with | [_, _], _ => rfl,
    f_Lfirst := _, fd_Lfirst := _, F_Lfirst := fun_mk (st := s_Lfirst) l_Lfirst c_Lfirst k_Lfirst,
    g_Lfirst := PySem.W.mg_of X G a_Lfirst,
    b_Lfirst := (fun_mk (st := s_Lfirst) l_Lfirst c_Lfirst k_Lfirst).binds (ps := ["_law_points", "_law_rows"]) fun _ _ _ _ _ _ us hl => match us, hl with | [_, _], _ => rfl,
    f_Lis_count := _, fd_Lis_count := _, F_Lis_count := fun_mk (st := s_Lis_count) l_Lis_count c_Lis_count k_Lis_count,
    g_Lis_count := PySem.W.mg_of X G a_Lis_count,
    b_Lis_count := (fun_mk (st := s_Lis_count) l_Lis_count c_Lis_count k_Lis_count).binds (ps := ["_law_value", "_law_most"]) fun _ _ _ _ _ _ us hl => match us, hl with | [_, _], _ => rfl,
    f_Lis_point := _, fd_Lis_point := _, F_Lis_point := fun_mk (st := s_Lis_point) l_Lis_point c_Lis_point k_Lis_point,
    g_Lis_point := PySem.W.mg_of X G a_Lis_point,
    b_Lis_point := (fun_mk (st := s_Lis_point) l_Lis_point c_Lis_point k_Lis_point).binds (ps := ["_law_value"]) fun _ _ _ _ _ _ us hl => match us, hl with | [_], _ => rfl,
    f_Lare_two := _, fd_Lare_two := _, F_Lare_two := fun_mk (st := s_Lare_two) l_Lare_two c_Lare_two k_Lare_two,
    g_Lare_two := PySem.W.mg_of X G a_Lare_two,
    b_Lare_two := (fun_mk (st := s_Lare_two) l_Lare_two c_Lare_two k_Lare_two).binds (ps := ["_law_one", "_law_other", "_law_most"]) fun _ _ _ _ _ _ us hl => match us, hl with | [_, _, _], _ => rfl,
    f_Lis_row := _, fd_Lis_row := _, F_Lis_row := fun_mk (st := s_Lis_row) l_Lis_row c_Lis_row k_Lis_row,
    g_Lis_row := PySem.W.mg_of X G a_Lis_row,
    b_Lis_row := (fun_mk (st := s_Lis_row) l_Lis_row c_Lis_row k_Lis_row).binds (ps := ["_law_value"]) fun _ _ _ _ _ _ us hl => match us, hl with | [_], _ => rfl,
    f_Lpoint := _, fd_Lpoint := _, F_Lpoint := fun_mk (st := s_Lpoint) l_Lpoint c_Lpoint k_Lpoint,
    g_Lpoint := PySem.W.mg_of X G a_Lpoint,
    b_Lpoint := (fun_mk (st := s_Lpoint) l_Lpoint c_Lpoint k_Lpoint).binds (ps := ["_law_pot_here"]) fun _ _ _ _ _ _ us hl => match us, hl with | [_], _ => rfl,
    f_Lrow := _, fd_Lrow := _, F_Lrow := fun_mk (st := s_Lrow) l_Lrow c_Lrow k_Lrow,
    g_Lrow := PySem.W.mg_of X G a_Lrow,
    b_Lrow := (fun_mk (st := s_Lrow) l_Lrow c_Lrow k_Lrow).binds (ps := ["_law_pot_here"]) fun _ _ _ _ _ _ us hl => match us, hl with | [_], _ => rfl,
    f_Lbent := _, fd_Lbent := _, F_Lbent := fun_mk (st := s_Lbent) l_Lbent c_Lbent k_Lbent,
    g_Lbent := PySem.W.mg_of X G a_Lbent,
    b_Lbent := (fun_mk (st := s_Lbent) l_Lbent c_Lbent k_Lbent).binds (ps := ["_law_pot_here", "_law_value"]) fun _ _ _ _ _ _ us hl => match us, hl with | [_, _], _ => rfl,
    f_Lright := _, fd_Lright := _, F_Lright := fun_mk (st := s_Lright) l_Lright c_Lright k_Lright,
    g_Lright := PySem.W.mg_of X G a_Lright,
    b_Lright := (fun_mk (st := s_Lright) l_Lright c_Lright k_Lright).binds (ps := ["_law_pot_here"]) fun _ _ _ _ _ _ us hl => match us, hl with | [_], _ => rfl,
    f_law := _, fd_law := _, F_law := fun_mk (st := s_law) l_law c_law k_law,
    g_law := PySem.W.mg_of X G a_law,
    b_law := (fun_mk (st := s_law) l_law c_law k_law).binds (ps := ["_law_script"]) fun _ _ _ _ _ _ us hl => match us, hl with | [_], _ => rfl,
    m_abs := PySem.W.mg_none_of X G z_abs,
    m_all := PySem.W.mg_none_of X G z_all,
    m_bool := PySem.W.mg_none_of X G z_bool,
    m_divmod := PySem.W.mg_none_of X G z_divmod,
    m_enumerate := PySem.W.mg_none_of X G z_enumerate,
    m_int := PySem.W.mg_none_of X G z_int,
    m_isinstance := PySem.W.mg_none_of X G z_isinstance,
    m_len := PySem.W.mg_none_of X G z_len,
    m_list := PySem.W.mg_none_of X G z_list,
    m_max := PySem.W.mg_none_of X G z_max,
    m_range := PySem.W.mg_none_of X G z_range,
    m_repr := PySem.W.mg_none_of X G z_repr,
    m_str := PySem.W.mg_none_of X G z_str,
    m_tuple := PySem.W.mg_none_of X G z_tuple,
    c_WORDS := ⟨_, PySem.W.mg_of X G x_WORDS⟩,
    c_ADDRESSES := ⟨_, PySem.W.mg_of X G x_ADDRESSES⟩,
    c_PLACES := ⟨_, PySem.W.mg_of X G x_PLACES⟩,
    c_REGISTERS := ⟨_, PySem.W.mg_of X G x_REGISTERS⟩,
    c__ROW_PARTS := ⟨_, PySem.W.mg_of X G x__ROW_PARTS⟩,
    c__GREATEST_CAUSE := ⟨_, PySem.W.mg_of X G x__GREATEST_CAUSE⟩,
    D_ki := D_ki,
    g_ki := PySem.W.mg_of X G a_ki,
    t_ki := ⟨⟨_, _, ⟨l_ki, y_ki, w_ki⟩⟩, o_ki, n_ki⟩ }
  exact ⟨_, fun s v => .of_eq rfl, fun base _ _ => ok_law (P := l.prog) (w := w) (base := base) T⟩
theorem walk {l : PySem.W.OpenLaw} {q : Program} {loose : List Str} {XP : (Str → Option Value) → Heap → Prop} {YP : World → Heap → Prop} {d : DefRec} {K : Params → PySem.W.Frag} (hn : l.most = some 63) (hdf : d.params.defaults = [])
    (hY : ∀ (w : World) (h : Heap), YP w h → (K w.params).In h)
    (F : ∀ (w : World) (mg : Str → Option Value) (fa : Addr) (h : Heap), (K w.params).In h → h.Ns mainGlobals mg → mg d.name = some (.ref fa) →
      ∃ fd : FuncData, (∀ (s : Shared) (u : Value), BindsTo s fd ⟨[u], []⟩ [("_law_script", u)]) ∧ ∀ base : Heap, (K w.params).In base → base.Ns mainGlobals mg → FnG l.prog w (K w.params) mg base 9 fa fd ["_law_script"] (sp_law (K w.params))) :
    PySem.W.WalkO q loose XP YP l.row.toRowW d [] (fun f vs => PySem.call f vs) :=
  walk_ofG (n := 63) (k := 9) (x := "_law_script") (sp := fun w => sp_law (K w.params)) hn (by decide) hdf ⟨rfl, by decide, by decide⟩ hY F (fun _ _ a ns hl _ hS => ⟨a, ns, rfl, hS, hl, fun _ => rfl⟩)
end K91
open PySem PySem.W PyProof.Rows
set_option maxRecDepth 100000 in
set_option maxHeartbeats 0 in
theorem PySem.Challenge.cw_orderlycore_k91_any_value_as_point_or_ro_holds : PySem.Challenge.rw_orderlycore_k91_any_value_as_point_or_ro.Holds := by
  w_on; o_law; k_head; (case hw => w_witness2)
  k_fill
  refine K91.walk (l := PySem.Challenge.rw_orderlycore_k91_any_value_as_point_or_ro) rfl rfl (fun w h Y => PySem.W.kIn_of Y) ?F
  case F =>
    intro w mg fa h KX G hmg
    refine' K91.all_mk KX G hmg ?a_is_integer ?l_is_integer ?c_is_integer ?k_is_integer ?a_is_between ?l_is_between ?c_is_between ?k_is_between ?a_is_list ?l_is_list ?c_is_list ?k_is_list ?a_is_word ?l_is_word ?c_is_word ?k_is_word ?a_is_address ?l_is_address ?c_is_address ?k_is_address ?a_is_place ?l_is_place ?c_is_place ?k_is_place ?a_is_register ?l_is_register ?c_is_register ?k_is_register ?a_is_row ?l_is_row ?c_is_row ?k_is_row ?a_are_rows ?l_are_rows ?c_are_rows ?k_are_rows ?a_need_row ?l_need_row ?c_need_row ?k_need_row ?a_need_row_list ?l_need_row_list ?c_need_row_list ?k_need_row_list ?a_is_point ?l_is_point ?c_is_point ?k_is_point ?a_need_point ?l_need_point ?c_need_point ?k_need_point ?a_meets ?l_meets ?c_meets ?k_meets ?a_first_met ?l_first_met ?c_first_met ?k_first_met ?a__meets ?l__meets ?c__meets ?k__meets ?a_Lpot ?l_Lpot ?c_Lpot ?k_Lpot ?a_Ldraw ?l_Ldraw ?c_Ldraw ?k_Ldraw ?a_Lpick ?l_Lpick ?c_Lpick ?k_Lpick ?a_Lmeets ?l_Lmeets ?c_Lmeets ?k_Lmeets ?a_Lfirst ?l_Lfirst ?c_Lfirst ?k_Lfirst ?a_Lis_count ?l_Lis_count ?c_Lis_count ?k_Lis_count ?a_Lis_point ?l_Lis_point ?c_Lis_point ?k_Lis_point ?a_Lare_two ?l_Lare_two ?c_Lare_two ?k_Lare_two ?a_Lis_row ?l_Lis_row ?c_Lis_row ?k_Lis_row ?a_Lpoint ?l_Lpoint ?c_Lpoint ?k_Lpoint ?a_Lrow ?l_Lrow ?c_Lrow ?k_Lrow ?a_Lbent ?l_Lbent ?c_Lbent ?k_Lbent ?a_Lright ?l_Lright ?c_Lright ?k_Lright ?a_law ?l_law ?c_law ?k_law ?z_abs ?z_all ?z_bool ?z_divmod ?z_enumerate ?z_int ?z_isinstance ?z_len ?z_list ?z_max ?z_range ?z_repr ?z_str ?z_tuple ?x_WORDS ?x_ADDRESSES ?x_PLACES ?x_REGISTERS ?x__ROW_PARTS ?x__GREATEST_CAUSE ?a_ki ?l_ki ?y_ki ?w_ki ?o_ki ?n_ki
    (case a_is_integer => k_is)
    (case l_is_integer => k_is)
    (case c_is_integer => k_is)
    (case k_is_integer => k_is)
    (case a_is_between => k_is)
    (case l_is_between => k_is)
    (case c_is_between => k_is)
    (case k_is_between => k_is)
    (case a_is_list => k_is)
    (case l_is_list => k_is)
    (case c_is_list => k_is)
    (case k_is_list => k_is)
    (case a_is_word => k_is)
    (case l_is_word => k_is)
    (case c_is_word => k_is)
    (case k_is_word => k_is)
    (case a_is_address => k_is)
    (case l_is_address => k_is)
    (case c_is_address => k_is)
    (case k_is_address => k_is)
    (case a_is_place => k_is)
    (case l_is_place => k_is)
    (case c_is_place => k_is)
    (case k_is_place => k_is)
    (case a_is_register => k_is)
    (case l_is_register => k_is)
    (case c_is_register => k_is)
    (case k_is_register => k_is)
    (case a_is_row => k_is)
    (case l_is_row => k_is)
    (case c_is_row => k_is)
    (case k_is_row => k_is)
    (case a_are_rows => k_is)
    (case l_are_rows => k_is)
    (case c_are_rows => k_is)
    (case k_are_rows => k_is)
    (case a_need_row => k_is)
    (case l_need_row => k_is)
    (case c_need_row => k_is)
    (case k_need_row => k_is)
    (case a_need_row_list => k_is)
    (case l_need_row_list => k_is)
    (case c_need_row_list => k_is)
    (case k_need_row_list => k_is)
    (case a_is_point => k_is)
    (case l_is_point => k_is)
    (case c_is_point => k_is)
    (case k_is_point => k_is)
    (case a_need_point => k_is)
    (case l_need_point => k_is)
    (case c_need_point => k_is)
    (case k_need_point => k_is)
    (case a_meets => k_is)
    (case l_meets => k_is)
    (case c_meets => k_is)
    (case k_meets => k_is)
    (case a_first_met => k_is)
    (case l_first_met => k_is)
    (case c_first_met => k_is)
    (case k_first_met => k_is)
    (case a__meets => k_is)
    (case l__meets => k_is)
    (case c__meets => k_is)
    (case k__meets => k_is)
    (case a_Lpot => k_is)
    (case l_Lpot => k_is)
    (case c_Lpot => k_is)
    (case k_Lpot => k_is)
    (case a_Ldraw => k_is)
    (case l_Ldraw => k_is)
    (case c_Ldraw => k_is)
    (case k_Ldraw => k_is)
    (case a_Lpick => k_is)
    (case l_Lpick => k_is)
    (case c_Lpick => k_is)
    (case k_Lpick => k_is)
    (case a_Lmeets => k_is)
    (case l_Lmeets => k_is)
    (case c_Lmeets => k_is)
    (case k_Lmeets => k_is)
    (case a_Lfirst => k_is)
    (case l_Lfirst => k_is)
    (case c_Lfirst => k_is)
    (case k_Lfirst => k_is)
    (case a_Lis_count => k_is)
    (case l_Lis_count => k_is)
    (case c_Lis_count => k_is)
    (case k_Lis_count => k_is)
    (case a_Lis_point => k_is)
    (case l_Lis_point => k_is)
    (case c_Lis_point => k_is)
    (case k_Lis_point => k_is)
    (case a_Lare_two => k_is)
    (case l_Lare_two => k_is)
    (case c_Lare_two => k_is)
    (case k_Lare_two => k_is)
    (case a_Lis_row => k_is)
    (case l_Lis_row => k_is)
    (case c_Lis_row => k_is)
    (case k_Lis_row => k_is)
    (case a_Lpoint => k_is)
    (case l_Lpoint => k_is)
    (case c_Lpoint => k_is)
    (case k_Lpoint => k_is)
    (case a_Lrow => k_is)
    (case l_Lrow => k_is)
    (case c_Lrow => k_is)
    (case k_Lrow => k_is)
    (case a_Lbent => k_is)
    (case l_Lbent => k_is)
    (case c_Lbent => k_is)
    (case k_Lbent => k_is)
    (case a_Lright => k_is)
    (case l_Lright => k_is)
    (case c_Lright => k_is)
    (case k_Lright => k_is)
    (case a_law => k_is)
    (case l_law => k_is)
    (case c_law => k_is)
    (case k_law => k_is)
    (case z_abs => k_is)
    (case z_all => k_is)
    (case z_bool => k_is)
    (case z_divmod => k_is)
    (case z_enumerate => k_is)
    (case z_int => k_is)
    (case z_isinstance => k_is)
    (case z_len => k_is)
    (case z_list => k_is)
    (case z_max => k_is)
    (case z_range => k_is)
    (case z_repr => k_is)
    (case z_str => k_is)
    (case z_tuple => k_is)
    (case x_WORDS => k_is)
    (case x_ADDRESSES => k_is)
    (case x_PLACES => k_is)
    (case x_REGISTERS => k_is)
    (case x__ROW_PARTS => k_is)
    (case x__GREATEST_CAUSE => k_is)
    (case a_ki => k_is)
    (case l_ki => k_is)
    (case y_ki => repeat (first | exact trivial | refine ⟨⟨_, _, rfl, rfl⟩, ?_⟩ | refine ⟨⟨_, _, rfl, ?_⟩, ?_⟩))
    (case w_ki => first | rfl | decide)
    (case o_ki => kernel_rfl)
    (case n_ki => kernel_rfl)

