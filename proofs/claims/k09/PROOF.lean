import PyProof.Rows.All
import Wide.All
import OpenK.AllK
import Wide.FinOn
import HandS.ForMost
import HandS.ForExc
import HandS.ExcInit
import HandS.ExcField
import HandS.IsInst
import HandS.Style
import HandS.Flt
import HandS.TupAny
import HandS.Wide
import HandS.Property
import HandS.Gcd
import HandS.Defaults
import HandS.MakeKw
import HandS.MakeKwOnly
import HandS.Small
import HandS.SlotsOwn
import KE.KOpsOwn
import KE.KExcIs
import HandS.Conv
import HandS.SortRule
import HandS.ExcIs
import HandS.ExcValue
import PyProof.ReprRoads
import HandS.Text
import HandS.StrMore
import PySem.Challenge.RW_widestkind_k09_tokens
set_option Elab.async false
set_option linter.all false
set_option maxRecDepth 100000
namespace U
open PySem PySem.Spec PyProof.Rows L2
/-- a module's name that holds a plain value or an object of the written part -/
def MgV (mg : Str → Option Value) (x : Str) (v : V) : Prop := ∃ u, mg x = some u ∧ RelV v u
theorem pe_con_ {X : Cx} {x : Str} {v : V} {pos : Pos} (h : MgV X.mg x v) (hg : Gl X x := by rfl) (hd : (x == ("__debug__" : Str)) = false := by decide) : PE X (.Name x pos) (tC v) := by
  obtain ⟨u, hm, r⟩ := h
  exact pe_glob hg hm r hd
/-- written texts in a tuple of the written part -/
theorem strsV (ss : List Str) (us : List Value) (h : Paired (fun (s : Str) (u : Value) => ∃ t, u = .str s t) ss us) : Vals (ss.map V.str) us := by
  induction h with
  | nil => exact .nil
  | cons a _ ih => exact .cons a ih
theorem exm_self {K : PySem.W.Frag} {S : Addr} (h1 : PySem.W.subIn K (.ref S) (.type "BaseException") = some true) (h2 : PySem.W.isClsIn K S = true) (h3 : PySem.W.typeIn K (.ref S) = some (.type "type")) (h4 : PySem.W.subIn K (.ref S) (.ref S) = some true) :
    PySem.W.exmOne K (.ref S) (.ref S) = some true := by
  have e1 : (PySem.W.subIn K (.ref S) (.type "BaseException") == some true) = true := by rw [h1] <;> rfl
  have e2 : ((PySem.W.clsIn K S).isSome && PySem.W.typeIn K (.ref S) == some (.type "type")) = true := by
    have h2' : (PySem.W.clsIn K S).isSome = true := h2
    rw [h2', h3] <;> rfl
  show (if (PySem.W.subIn K (.ref S) (.type "BaseException") == some true) = true then (if ((PySem.W.clsIn K S).isSome && PySem.W.typeIn K (.ref S) == some (.type "type")) = true then PySem.W.subIn K (.ref S) (.ref S) else none) else none) = some true
  rw [if_pos e1, if_pos e2]
  exact h4
section
variable {X : Cx} {K : PySem.W.Frag}
theorem kOr2 {X : Cx} {f : Value → Value → Sem Value} {r r' : R2} (h : OpR X f r) (e : r = r') : OpR X f r' := e ▸ h
def uAdd {X : Cx} := (op_add (X := X)).or (op_add_str.or op_cat)
def uMul {X : Cx} := op_mul (X := X)
def uLt {X : Cx} := (op_lt (X := X)).or op_lt_str
def uLe {X : Cx} := (op_le (X := X)).or op_le_str
def uGt {X : Cx} := (op_gt (X := X)).or op_gt_str
def uGe {X : Cx} := (op_ge (X := X)).or op_ge_str
def rEqU (K : PySem.W.Frag) : R2 := fun x y H Q => rEq x y H Q ∨ rEqD K x y H Q
def rNeU (K : PySem.W.Frag) : R2 := fun x y H Q => rNe x y H Q ∨ rNeD K x y H Q
theorem uEq (hK : X.K = K) (hu : X.A.units + 64 < cLine) : OpR X (compareOp .Eq) (rEqU K) := by
  subst hK
  exact (op_eq (X := X)).or (op_eqD hu)
theorem uNe (hK : X.K = K) (hu : X.A.units + 64 < cLine) : OpR X (compareOp .NotEq) (rNeU K) := by
  subst hK
  exact (op_ne (X := X)).or (op_neD hu)
def rInSg : R2 := fun x y H Q => ∃ (c : Nat) (z : Str), x = .str ⟨#[c]⟩ ∧ y = .str z ∧ Q (.bl (decide (c ∈ z.cps.toList))) H
def rNotInSg : R2 := fun x y H Q => ∃ (c : Nat) (z : Str), x = .str ⟨#[c]⟩ ∧ y = .str z ∧ Q (.bl (!decide (c ∈ z.cps.toList))) H
def rInU (K : PySem.W.Frag) : R2 := fun x y H Q => rInSg x y H Q ∨ rIn K false x y H Q
def rNotInU (K : PySem.W.Frag) : R2 := fun x y H Q => rNotInSg x y H Q ∨ rIn K true x y H Q
theorem uIn (hK : X.K = K) : OpR X (compareOp .In) (rInU K) := by
  subst hK
  exact (op_in_sign (X := X)).or op_in_seq
theorem uNotIn (hK : X.K = K) : OpR X (compareOp .NotIn) (rNotInU K) := by
  subst hK
  exact (op_notIn_sign (X := X)).or op_notIn_seq
def rSlU (K : PySem.W.Frag) : V → Option Int → Option Int → Hp → VK → Prop := fun x lo hi H Q => rSlS x lo hi H Q ∨ rSlL K x lo hi H Q
theorem uSl (hK : X.K = K) : SlR X (rSlU K) := by
  subst hK
  exact (sl_str (X := X)).or sl_list
def rLenU (K : PySem.W.Frag) : List V → Hp → VK → Prop := fun xs H Q => (∃ z, xs = [.str z] ∧ z.length ≤ sizeLine ∧ Q (.int z.length) H) ∨ ∃ p ys, xs = [.ref p] ∧ (SqL K H p ys ∨ SqT K H p ys) ∧ Q (.int ys.length) H
theorem uLen (hK : X.K = K) : CallR X (.builtin "len") (rLenU K) := by
  subst hK
  exact (call_len_str (X := X)).or call_len_seq
theorem uIx (hK : X.K = K) : IxR X (rIx K) := by
  subst hK
  exact ix_seq
theorem uSum (hK : X.K = K) (hc : X.calm = true) : CallR X (.builtin "sum") (rSum K) := by
  subst hK
  exact cr_sum hc
def call_max3 {X : Cx} (hc : X.calm = true) := call_max3Nu hc
end
theorem ifT {c A B : Prop} [Decidable c] (hc : c) (h : A) : if decide c = true then A else B := by
  rw [decide_eq_true hc, if_pos rfl]
  exact h
theorem ifF {c A B : Prop} [Decidable c] (hc : ¬ c) (h : B) : if decide c = true then A else B := by
  rw [decide_eq_false hc, if_neg Bool.false_ne_true]
  exact h
theorem ifB {c : Bool} {A B : Prop} (b : Bool) (hc : c = b) (h : if b = true then A else B) : if c = true then A else B := by
  rw [hc]
  exact h
theorem ifD {c A B : Prop} [Decidable c] (h1 : c → A) (h2 : ¬ c → B) : if decide c = true then A else B := by
  by_cases h : c
  · exact ifT h (h1 h)
  · exact ifF h (h2 h)
theorem ifBl {c : Bool} {A B : Prop} (h1 : c = true → A) (h2 : c = false → B) : if c = true then A else B := by
  cases c with
  | true => exact iteT (h1 rfl)
  | false => exact iteF (h2 rfl)
theorem le1 (a b : Nat) : (!decide ((⟨#[b]⟩ : Str).cps.toList < (⟨#[a]⟩ : Str).cps.toList)) = decide (a ≤ b) := by
  have e : ((⟨#[b]⟩ : Str).cps.toList < (⟨#[a]⟩ : Str).cps.toList) ↔ b < a := by
    show ([b] : List Nat) < [a] ↔ b < a
    rw [List.cons_lt_cons_iff]
    simp
  by_cases h : b < a
  · rw [decide_eq_true (e.mpr h), decide_eq_false (by omega)] <;> rfl
  · rw [decide_eq_false (fun q => h (e.mp q)), decide_eq_true (by omega)] <;> rfl
theorem sz {n : Nat} (h : n ≤ 100000) : n ≤ sizeLine := Nat.le_trans h (by decide)
theorem szl {n : Nat} (h : n < 100000) : n < sizeLine := Nat.lt_of_lt_of_le h (by decide)
theorem atN {α : Type} {xs : List α} {i : Int} {v : α} (j : Nat) (e : i = (j : Int)) (h : xs[j]? = some v) : atI xs i = some v := by
  rw [e]
  exact atI_nat h
theorem zlen (z : Str) : z.length = z.cps.toList.length := by simp [Str.length]
end U
namespace U
open PySem PySem.Spec PyProof.Rows L2
theorem same_new {H : Hp} {p : Addr} {o : HO} (h : H p = none) : Same H (upd H p o) := fun b u e => by
  rw [upd_ne (ne_of_none e h)]
  exact e
/-- all but what stands at p is as it was -/
def SameBut (p : Addr) (H H' : Hp) : Prop := ∀ b o, b ≠ p → H b = some o → H' b = some o
theorem SameBut.refl (p : Addr) (H : Hp) : SameBut p H H := fun _ _ _ h => h
theorem SameBut.trans {p : Addr} {H H1 H2 : Hp} (a : SameBut p H H1) (b : SameBut p H1 H2) : SameBut p H H2 := fun c o n h => b c o n (a c o n h)
theorem SameBut.of {p : Addr} {H H' : Hp} (a : Same H H') : SameBut p H H' := fun c o _ h => a c o h
theorem SameBut.upd {p : Addr} {H H' : Hp} {o : HO} (a : SameBut p H H') : SameBut p H (upd H' p o) := fun c u n h => by
  rw [upd_ne n]
  exact a c u n h
theorem Same.but {p : Addr} {H H1 H2 : Hp} (a : Same H H1) (b : SameBut p H1 H2) (hp : H p = none) : Same H H2 := fun c o h => b c o (ne_of_none h hp) (a c o h)
theorem SameBut.free {p l : Addr} {H H' : Hp} (a : SameBut p H H') (n : l ≠ p) (h : H' l = none) : H l = none := by
  cases q : H l with
  | none => rfl
  | some o =>
    rw [a l o n q] at h
    cases h
/-- a box of draws: three whole numbers -/
def BoxAt (H : Hp) (p : Addr) (n : Nat) : Prop := ∃ b0 b1 b2 : Int, H p = some (.lst [.int b0, .int b1, .int b2]) ∧ 0 ≤ b0 ∧ 0 ≤ b1 ∧ b1 < 2147483648 ∧ 0 ≤ b2 ∧ b2 ≤ n
theorem BoxAt.some {H : Hp} {p : Addr} {n : Nat} (b : BoxAt H p n) : ∃ o, H p = some o := by
  obtain ⟨b0, b1, b2, h, _⟩ := b
  exact ⟨_, h⟩
theorem BoxAt.mono {H : Hp} {p : Addr} {n m : Nat} (b : BoxAt H p n) (h : n ≤ m) : BoxAt H p m := by
  obtain ⟨b0, b1, b2, e, h0, h1, h2, h3, h4⟩ := b
  exact ⟨b0, b1, b2, e, h0, h1, h2, h3, by omega⟩
theorem BoxAt.same {H H' : Hp} {p : Addr} {n : Nat} (b : BoxAt H p n) (s : Same H H') : BoxAt H' p n := by
  obtain ⟨b0, b1, b2, e, h⟩ := b
  exact ⟨b0, b1, b2, s _ _ e, h⟩
/-- _law_take: one draw -/
def spTake : Sp := fun vs H Q _ => ∃ (p : Addr) (m : Int) (n : Nat), vs = [.ref p, .int m] ∧ BoxAt H p n ∧ n ≤ 100000 ∧ 0 < m ∧ m < 1073741824 ∧ ∀ (d : Int) (H' : Hp), 0 ≤ d → d < m → BoxAt H' p (n + 1) → SameBut p H H' → Q (.int d) H'
def spBox : Sp := fun vs H Q _ => ∃ (c : Int), vs = [.int c] ∧ ∀ (p : Addr) (H' : Hp), H p = none → BoxAt H' p 0 → Same H H' → Q (.ref p) H'
def spCell (K : PySem.W.Frag) : Sp := fun vs H Q _ => ∃ (a : Addr) (ns : List Int) (k : Int), vs = [.ref a, .int k] ∧ SqL K H a (ns.map V.int) ∧ ns.length ≤ 63 ∧ 0 ≤ k ∧ k ≤ 1000 ∧ ∀ (c : Int) (H' : Hp), Same H H' → Q (.int c) H'
theorem cut_map (ns : List Int) (lo hi : Option Int) : ∃ ms : List Int, cutV (ns.map V.int) lo hi = ms.map V.int := by
  refine ⟨(ns.drop (HT.sIx (ns.map V.int).length 0 lo)).take (HT.sIx (ns.map V.int).length (ns.map V.int).length hi - HT.sIx (ns.map V.int).length 0 lo), ?_⟩
  unfold cutV
  rw [List.map_take, List.map_drop]
theorem lst_ix0 {x y z : V} : ([x, y, z] : List V)[0]? = some x := rfl
end U
namespace U
open PySem PySem.Spec PyProof.Rows L2
theorem ifDi {a b : Int} {A B : Prop} (h1 : a = b → A) (h2 : ¬ a = b → B) : if decide (V.int a = V.int b) = true then A else B :=
  ifD (fun h => h1 (V.int.inj h)) (fun h => h2 (fun e => h (congrArg V.int e)))
theorem ifDs {a b : Str} {A B : Prop} (h1 : a = b → A) (h2 : ¬ a = b → B) : if decide (V.str a = V.str b) = true then A else B :=
  ifD (fun h => h1 (V.str.inj h)) (fun h => h2 (fun e => h (congrArg V.str e)))
theorem ifDbi {a b : Int} {A B : Prop} (h1 : ¬ a = b → A) (h2 : a = b → B) : if (!decide (V.int a = V.int b)) = true then A else B := by
  by_cases h : a = b
  · rw [decide_eq_true (congrArg V.int h)]
    exact iteF (h2 h)
  · rw [decide_eq_false (fun q => h (V.int.inj q))]
    exact iteT (h1 h)
theorem ifTi {a b : Int} {A B : Prop} (hc : a = b) (h : A) : if decide (V.int a = V.int b) = true then A else B := ifT (congrArg V.int hc) h
theorem ifFi {a b : Int} {A B : Prop} (hc : ¬ a = b) (h : B) : if decide (V.int a = V.int b) = true then A else B := ifF (fun e => hc (V.int.inj e)) h
end U
namespace U
open PySem PySem.Spec PyProof.Rows L2
theorem forR1 {n : Int} {g : TG} {tb : TS} {D : Ends} {σ : L2.St} {H : Hp} (hn : 0 ≤ n ∧ n ≤ 100000) (Pv : Nat → L2.St → Hp → Prop) (h0 : Pv 0 σ H)
    (hs : ∀ (i : Nat) σ H, (i : Int) < n → Pv i σ H → g (.int (i : Int)) σ H fun σ2 H2 => tb { D with nx := Pv (i + 1), ct := Pv (i + 1), bk := D.nx } σ2 H2) (hd : ∀ σ H, Pv n.toNat σ H → D.nx σ H) :
    ∃ j : Int, [V.int n] = [V.int j] ∧ -(2 ^ 62) ≤ j ∧ j < 2 ^ 62 ∧ ∃ W : Nat → Nat → L2.St → Hp → Prop, (∃ m, W 0 m σ H) ∧ ∀ i m σ H, W i m σ H →
      ((Itr 0 j.toNat).stop i H ∧ D.nx σ H) ∨ ((Itr 0 j.toNat).go i H ∧ ∃ N : L2.St → Hp → Prop, (∀ σ' H', N σ' H' → ∃ m', m' < m ∧ W (i + 1) m' σ' H') ∧ ∀ x H', (Itr 0 j.toNat).yld i H x H' → g x σ H' fun σ2 H2 => tb { D with nx := N, ct := N, bk := D.nx } σ2 H2) :=
  ⟨n, rfl, by omega, by omega, for_range (lo := 0) (n := n.toNat) Pv h0 (fun i σ H hi p => by
    have e0 : (0 : Int) + (i : Int) = (i : Int) := Int.zero_add _
    rw [e0]
    exact hs i σ H (by omega) p) hd⟩
/-- a comprehension over the signs of a text -/
theorem lcStr {z : Str} {g : TG} {tt : TT} {te : TE} {vs : List Nat} {σ : L2.St} {H1 : Hp} {D : Addr} {Qd : Hp → Prop} (Pv : Nat → Hp → Prop) (h0 : Pv 0 (upd H1 D (.lst [])))
    (hs : ∀ i c H, z.cps.toList[i]? = some c → Pv i H → g (.str ⟨#[c]⟩) (wipe σ vs) H fun σ2 H2 => wipe σ2 vs = wipe σ vs ∧ tt σ2 H2 fun b H3 =>
      if b = true then te σ2 H3 fun y H4 => ∃ acc, H4 D = some (.lst acc) ∧ acc.length < sizeLine ∧ Pv (i + 1) (upd H4 D (.lst (acc ++ [y]))) else Pv (i + 1) H3) (hd : ∀ H, Pv z.length H → Qd H) :
    ∃ W : Nat → Nat → Hp → Prop, (∃ m, W 0 m (upd H1 D (.lst []))) ∧ ∀ i m H, W i m H →
      ((Its z).stop i H ∧ Qd H) ∨ ((Its z).go i H ∧ ∃ Nx : Hp → Prop, (∀ H', Nx H' → ∃ m', m' < m ∧ W (i + 1) m' H') ∧ ∀ x H', (Its z).yld i H x H' → g x (wipe σ vs) H' fun σ2 H2 => wipe σ2 vs = wipe σ vs ∧ tt σ2 H2 fun b H3 =>
        if b = true then te σ2 H3 fun y H4 => ∃ acc, H4 D = some (.lst acc) ∧ acc.length < sizeLine ∧ Nx (upd H4 D (.lst (acc ++ [y]))) else Nx H3) := by
  refine ⟨fun i m H => i + m = z.length ∧ Pv i H, ⟨z.length, Nat.zero_add _, h0⟩, ?_⟩
  rintro i m H ⟨hm, p⟩
  by_cases hi : i < z.length
  · refine Or.inr ⟨hi, Pv (i + 1), fun H' q => ⟨m - 1, by omega, by omega, q⟩, ?_⟩
    rintro x H' ⟨rfl, c, hc, rfl⟩
    refine hs i c H' ?_ p
    rw [← hc]
    simp
  · refine Or.inl ⟨Nat.le_of_not_lt hi, hd H ?_⟩
    rw [show z.length = i by omega]
    exact p
/-- written texts as data -/
def strD (ss : List Str) : List PyData := ss.map .str
theorem dpStrs {K : PySem.W.Frag} {H : Hp} : ∀ ss : List Str, DpAll K H (ss.map V.str) (strD ss)
  | [] => .nil
  | s :: r => .cons (.str s) (dpStrs r)
theorem canStrs : ∀ ss : List Str, (∀ s ∈ ss, PyData.strOk s = true) → PyData.canLayAll0 (strD ss) = true
  | [], _ => rfl
  | s :: r, h => by
    show (PyData.strOk s && PyData.canLayAll0 (strD r)) = true
    rw [h s (List.mem_cons_self ..), canStrs r fun t ht => h t (List.mem_cons_of_mem _ ht)] <;> rfl
theorem depthStrs : ∀ ss : List Str, PyData.depthAll (strD ss) = 0
  | [] => rfl
  | s :: r => by
    show max 0 (PyData.depthAll (strD r)) = 0
    rw [depthStrs r] <;> rfl
theorem shStrs (ss : List Str) (h : ∀ s ∈ ss, PyData.strOk s = true) : SeqAt.shaped (.list (strD ss)) = true := by
  show (PyData.canLayAll0 (strD ss) && decide (PyData.depthAll (strD ss) + 1 ≤ 64)) = true
  rw [canStrs ss h, depthStrs] <;> rfl
end U
namespace U
open PySem PySem.Spec PyProof.Rows L2
theorem newF {H H1 : Hp} {p : Addr} {o : HO} (np : H p = none) (h : upd H p o = H1) : Same H H1 ∧ H1 p = some o := by
  subst h
  exact ⟨same_new np, upd_same⟩
theorem updF {H H1 : Hp} {p : Addr} {o : HO} (h : upd H p o = H1) : H1 p = some o ∧ SameBut p H H1 := by
  subst h
  exact ⟨upd_same, (SameBut.refl _ _).upd⟩
theorem atI_words {ss : List Str} {d : Int} {v : V} (h : atI (ss.map V.str) d = some v) (xs : List V) (e : xs = ss.map V.str) : atI xs d = some v := by
  rw [e]
  exact h
end U
namespace U
open PySem PySem.Spec PyProof.Rows L2
theorem forR {n : Nat} {g : TG} {tb : TS} {D : Ends} {σ : L2.St} {H : Hp} (Pv : Nat → L2.St → Hp → Prop) (h0 : Pv 0 σ H)
    (hs : ∀ (i : Nat) σ H, i < n → Pv i σ H → g (.int (i : Int)) σ H fun σ2 H2 => tb { D with nx := Pv (i + 1), ct := Pv (i + 1), bk := D.nx } σ2 H2) (hd : ∀ σ H, Pv n σ H → D.nx σ H) :
    ∃ W : Nat → Nat → L2.St → Hp → Prop, (∃ m, W 0 m σ H) ∧ ∀ i m σ H, W i m σ H →
      ((Itr 0 n).stop i H ∧ D.nx σ H) ∨ ((Itr 0 n).go i H ∧ ∃ N : L2.St → Hp → Prop, (∀ σ' H', N σ' H' → ∃ m', m' < m ∧ W (i + 1) m' σ' H') ∧ ∀ x H', (Itr 0 n).yld i H x H' → g x σ H' fun σ2 H2 => tb { D with nx := N, ct := N, bk := D.nx } σ2 H2) :=
  for_range (lo := 0) (n := n) Pv h0 (fun i σ H hi p => by
    have e0 : (0 : Int) + (i : Int) = (i : Int) := Int.zero_add _
    rw [e0]
    exact hs i σ H hi p) hd
end U
namespace Toy
open PySem L2
--@ITER _law_text +7 str
--@RAISING tokens
/-- a written dict of the program: its keys and values -/
def KTab (w : World) (K : PySem.W.Frag) (d : Addr) (kvs : List (Str × V)) : Prop := ∃ es n, KDict K w d es n ∧ PySem.Paired (fun (p : Str × V) (e : DictEntry) => (∃ t, e.key = .str p.1 t) ∧ RelV p.2 e.val) kvs es.toList
def top (i : Nat) : Stmt := PySem.Challenge.pw_widestkind_k09_tokens.main.body.getD i (.Pass ⟨0, 0, 0, 0⟩)
abbrev s_BadText_init : Stmt := inClass (top 2) 0
abbrev nm_BadText_init : List Str := ["self", "at"]
theorem sc_BadText_init : FnScope nm_BadText_init ["self", "at"] (defScope s_BadText_init) := ⟨rfl, rfl, rfl, by decide +kernel, rfl, by decide +kernel, by decide +kernel⟩
abbrev s_run_end : Stmt := top 8
abbrev nm_run_end : List Str := ["text", "begin", "signs", "most", "stretch"]
theorem sc_run_end : FnScope nm_run_end ["text", "begin", "signs", "most"] (defScope s_run_end) := ⟨rfl, rfl, rfl, by decide +kernel, rfl, by decide +kernel, by decide +kernel⟩
abbrev s_word_end : Stmt := top 9
abbrev nm_word_end : List Str := ["text", "begin", "letters"]
theorem sc_word_end : FnScope nm_word_end ["text", "begin"] (defScope s_word_end) := ⟨rfl, rfl, rfl, by decide +kernel, rfl, by decide +kernel, by decide +kernel⟩
abbrev s_tag_end : Stmt := top 10
abbrev nm_tag_end : List Str := ["text", "begin"]
theorem sc_tag_end : FnScope nm_tag_end ["text", "begin"] (defScope s_tag_end) := ⟨rfl, rfl, rfl, by decide +kernel, rfl, by decide +kernel, by decide +kernel⟩
abbrev s_number_end : Stmt := top 11
abbrev nm_number_end : List Str := ["text", "begin"]
theorem sc_number_end : FnScope nm_number_end ["text", "begin"] (defScope s_number_end) := ⟨rfl, rfl, rfl, by decide +kernel, rfl, by decide +kernel, by decide +kernel⟩
abbrev s_token_end : Stmt := top 15
abbrev nm_token_end : List Str := ["text", "begin", "sort", "end"]
theorem sc_token_end : FnScope nm_token_end ["text", "begin", "sort"] (defScope s_token_end) := ⟨rfl, rfl, rfl, by decide +kernel, rfl, by decide +kernel, by decide +kernel⟩
abbrev s_cut : Stmt := top 16
abbrev nm_cut : List Str := ["text", "found", "sorts", "close", "at", "sign", "sort", "end", "token"]
theorem sc_cut : FnScope nm_cut ["text"] (defScope s_cut) := ⟨rfl, rfl, rfl, by decide +kernel, rfl, by decide +kernel, by decide +kernel⟩
abbrev s_tokens : Stmt := top 18
abbrev nm_tokens : List Str := ["text", "found", "_", "wrong"]
theorem sc_tokens : FnScope nm_tokens ["text"] (defScope s_tokens) := ⟨rfl, rfl, rfl, by decide +kernel, rfl, by decide +kernel, by decide +kernel⟩
abbrev s_law_cell : Stmt := top 20
abbrev nm_law_cell : List Str := ["script", "k"]
theorem sc_law_cell : FnScope nm_law_cell ["script", "k"] (defScope s_law_cell) := ⟨rfl, rfl, rfl, by decide +kernel, rfl, by decide +kernel, by decide +kernel⟩
abbrev s_law_box : Stmt := top 21
abbrev nm_law_box : List Str := ["cell"]
theorem sc_law_box : FnScope nm_law_box ["cell"] (defScope s_law_box) := ⟨rfl, rfl, rfl, by decide +kernel, rfl, by decide +kernel, by decide +kernel⟩
abbrev s_law_take : Stmt := top 22
abbrev nm_law_take : List Str := ["box", "many", "digit", "blend"]
theorem sc_law_take : FnScope nm_law_take ["box", "many"] (defScope s_law_take) := ⟨rfl, rfl, rfl, by decide +kernel, rfl, by decide +kernel, by decide +kernel⟩
abbrev s_law_run : Stmt := top 23
abbrev nm_law_run : List Str := ["text", "spot", "signs", "most", "many"]
theorem sc_law_run : FnScope nm_law_run ["text", "spot", "signs", "most"] (defScope s_law_run) := ⟨rfl, rfl, rfl, by decide +kernel, rfl, by decide +kernel, by decide +kernel⟩
abbrev s_law_word_end : Stmt := top 24
abbrev nm_law_word_end : List Str := ["text", "spot", "end"]
theorem sc_law_word_end : FnScope nm_law_word_end ["text", "spot"] (defScope s_law_word_end) := ⟨rfl, rfl, rfl, by decide +kernel, rfl, by decide +kernel, by decide +kernel⟩
abbrev s_law_one : Stmt := top 25
abbrev nm_law_one : List Str := ["text", "spot", "sign", "small", "end", "own"]
theorem sc_law_one : FnScope nm_law_one ["text", "spot"] (defScope s_law_one) := ⟨rfl, rfl, rfl, by decide +kernel, rfl, by decide +kernel, by decide +kernel⟩
abbrev s_law_due : Stmt := top 26
abbrev nm_law_due : List Str := ["text", "found", "spot", "close", "end", "long", "glued"]
theorem sc_law_due : FnScope nm_law_due ["text"] (defScope s_law_due) := ⟨rfl, rfl, rfl, by decide +kernel, rfl, by decide +kernel, by decide +kernel⟩
abbrev s_law_text : Stmt := top 27
abbrev nm_law_text : List Str := ["box", "some", "odd", "text", "k", "spot", "sign"]
theorem sc_law_text : FnScope nm_law_text ["box"] (defScope s_law_text) := ⟨rfl, rfl, rfl, by decide +kernel, rfl, by decide +kernel, by decide +kernel⟩
abbrev s_law_told : Stmt := top 28
abbrev nm_law_told : List Str := ["text", "e"]
theorem sc_law_told : FnScope nm_law_told ["text"] (defScope s_law_told) := ⟨rfl, rfl, rfl, by decide +kernel, rfl, by decide +kernel, by decide +kernel⟩
abbrev s_law : Stmt := top 29
abbrev nm_law : List Str := ["script", "k", "box", "turn", "text", "due", "heard"]
theorem sc_law : FnScope nm_law ["script"] (defScope s_law) := ⟨rfl, rfl, rfl, by decide +kernel, rfl, by decide +kernel, by decide +kernel⟩
structure Ad where
  (a_BadText_init a_run_end a_word_end a_tag_end a_number_end a_token_end a_cut a_tokens a_law_cell a_law_box a_law_take a_law_run a_law_word_end a_law_one a_law_due a_law_text a_law_told a_law : Addr)
  (fd_BadText_init fd_run_end fd_word_end fd_tag_end fd_number_end fd_token_end fd_cut fd_tokens fd_law_cell fd_law_box fd_law_take fd_law_run fd_law_word_end fd_law_one fd_law_due fd_law_text fd_law_told fd_law : FuncData)
  (a_OWN_WORDS a_SORTS : Addr)
  (c_KindError c_BadText : Addr)
def kv_OWN_WORDS (A : Ad) : List (Str × V) := [(("fn" : Str), (V.bl true)), (("let" : Str), (V.bl true)), (("in" : Str), (V.bl true)), (("rec" : Str), (V.bl true)), (("match" : Str), (V.bl true)), (("with" : Str), (V.bl true)), (("fail" : Str), (V.bl true)), (("num" : Str), (V.bl true))]
def kv_SORTS (A : Ad) : List (Str × V) := [(("a" : Str), (V.str "word")), (("b" : Str), (V.str "word")), (("c" : Str), (V.str "word")), (("d" : Str), (V.str "word")), (("e" : Str), (V.str "word")), (("f" : Str), (V.str "word")), (("g" : Str), (V.str "word")), (("h" : Str), (V.str "word")), (("i" : Str), (V.str "word")), (("j" : Str), (V.str "word")), (("k" : Str), (V.str "word")), (("l" : Str), (V.str "word")), (("m" : Str), (V.str "word")), (("n" : Str), (V.str "word")), (("o" : Str), (V.str "word")), (("p" : Str), (V.str "word")), (("q" : Str), (V.str "word")), (("r" : Str), (V.str "word")), (("s" : Str), (V.str "word")), (("t" : Str), (V.str "word")), (("u" : Str), (V.str "word")), (("v" : Str), (V.str "word")), (("w" : Str), (V.str "word")), (("x" : Str), (V.str "word")), (("y" : Str), (V.str "word")), (("z" : Str), (V.str "word")), (("A" : Str), (V.str "tag")), (("B" : Str), (V.str "tag")), (("C" : Str), (V.str "tag")), (("D" : Str), (V.str "tag")), (("E" : Str), (V.str "tag")), (("F" : Str), (V.str "tag")), (("G" : Str), (V.str "tag")), (("H" : Str), (V.str "tag")), (("I" : Str), (V.str "tag")), (("J" : Str), (V.str "tag")), (("K" : Str), (V.str "tag")), (("L" : Str), (V.str "tag")), (("M" : Str), (V.str "tag")), (("N" : Str), (V.str "tag")), (("O" : Str), (V.str "tag")), (("P" : Str), (V.str "tag")), (("Q" : Str), (V.str "tag")), (("R" : Str), (V.str "tag")), (("S" : Str), (V.str "tag")), (("T" : Str), (V.str "tag")), (("U" : Str), (V.str "tag")), (("V" : Str), (V.str "tag")), (("W" : Str), (V.str "tag")), (("X" : Str), (V.str "tag")), (("Y" : Str), (V.str "tag")), (("Z" : Str), (V.str "tag")), (("0" : Str), (V.str "number")), (("1" : Str), (V.str "number")), (("2" : Str), (V.str "number")), (("3" : Str), (V.str "number")), (("4" : Str), (V.str "number")), (("5" : Str), (V.str "number")), (("6" : Str), (V.str "number")), (("7" : Str), (V.str "number")), (("8" : Str), (V.str "number")), (("9" : Str), (V.str "number")), (("'" : Str), (V.str "'")), (("$" : Str), (V.str "$"))]
structure Top (w : World) (K : PySem.W.Frag) (mg : Str → Option Value) (A : Ad) : Prop where
  F_BadText_init : Fun K "__init__" "BadText.__init__" s_BadText_init A.a_BadText_init A.fd_BadText_init
  b_BadText_init : Binds K A.fd_BadText_init ["self", "at"] []
  F_run_end : Fun K "run_end" "run_end" s_run_end A.a_run_end A.fd_run_end
  b_run_end : Binds K A.fd_run_end ["text", "begin", "signs", "most"] []
  m_run_end : mg "run_end" = some (.ref A.a_run_end)
  F_word_end : Fun K "word_end" "word_end" s_word_end A.a_word_end A.fd_word_end
  b_word_end : Binds K A.fd_word_end ["text", "begin"] []
  m_word_end : mg "word_end" = some (.ref A.a_word_end)
  F_tag_end : Fun K "tag_end" "tag_end" s_tag_end A.a_tag_end A.fd_tag_end
  b_tag_end : Binds K A.fd_tag_end ["text", "begin"] []
  m_tag_end : mg "tag_end" = some (.ref A.a_tag_end)
  F_number_end : Fun K "number_end" "number_end" s_number_end A.a_number_end A.fd_number_end
  b_number_end : Binds K A.fd_number_end ["text", "begin"] []
  m_number_end : mg "number_end" = some (.ref A.a_number_end)
  F_token_end : Fun K "token_end" "token_end" s_token_end A.a_token_end A.fd_token_end
  b_token_end : Binds K A.fd_token_end ["text", "begin", "sort"] []
  m_token_end : mg "token_end" = some (.ref A.a_token_end)
  F_cut : Fun K "cut" "cut" s_cut A.a_cut A.fd_cut
  b_cut : Binds K A.fd_cut ["text"] []
  m_cut : mg "cut" = some (.ref A.a_cut)
  F_tokens : Fun K "tokens" "tokens" s_tokens A.a_tokens A.fd_tokens
  b_tokens : Binds K A.fd_tokens ["text"] []
  m_tokens : mg "tokens" = some (.ref A.a_tokens)
  F_law_cell : Fun K "_law_cell" "_law_cell" s_law_cell A.a_law_cell A.fd_law_cell
  b_law_cell : Binds K A.fd_law_cell ["script", "k"] []
  m_law_cell : mg "_law_cell" = some (.ref A.a_law_cell)
  F_law_box : Fun K "_law_box" "_law_box" s_law_box A.a_law_box A.fd_law_box
  b_law_box : Binds K A.fd_law_box ["cell"] []
  m_law_box : mg "_law_box" = some (.ref A.a_law_box)
  F_law_take : Fun K "_law_take" "_law_take" s_law_take A.a_law_take A.fd_law_take
  b_law_take : Binds K A.fd_law_take ["box", "many"] []
  m_law_take : mg "_law_take" = some (.ref A.a_law_take)
  F_law_run : Fun K "_law_run" "_law_run" s_law_run A.a_law_run A.fd_law_run
  b_law_run : Binds K A.fd_law_run ["text", "spot", "signs", "most"] []
  m_law_run : mg "_law_run" = some (.ref A.a_law_run)
  F_law_word_end : Fun K "_law_word_end" "_law_word_end" s_law_word_end A.a_law_word_end A.fd_law_word_end
  b_law_word_end : Binds K A.fd_law_word_end ["text", "spot"] []
  m_law_word_end : mg "_law_word_end" = some (.ref A.a_law_word_end)
  F_law_one : Fun K "_law_one" "_law_one" s_law_one A.a_law_one A.fd_law_one
  b_law_one : Binds K A.fd_law_one ["text", "spot"] []
  m_law_one : mg "_law_one" = some (.ref A.a_law_one)
  F_law_due : Fun K "_law_due" "_law_due" s_law_due A.a_law_due A.fd_law_due
  b_law_due : Binds K A.fd_law_due ["text"] []
  m_law_due : mg "_law_due" = some (.ref A.a_law_due)
  F_law_text : Fun K "_law_text" "_law_text" s_law_text A.a_law_text A.fd_law_text
  b_law_text : Binds K A.fd_law_text ["box"] []
  m_law_text : mg "_law_text" = some (.ref A.a_law_text)
  F_law_told : Fun K "_law_told" "_law_told" s_law_told A.a_law_told A.fd_law_told
  b_law_told : Binds K A.fd_law_told ["text"] []
  m_law_told : mg "_law_told" = some (.ref A.a_law_told)
  F_law : Fun K "law" "law" s_law A.a_law A.fd_law
  b_law : Binds K A.fd_law ["script"] []
  m_law : mg "law" = some (.ref A.a_law)
  n_bool : mg "bool" = none
  n_int : mg "int" = none
  n_isinstance : mg "isinstance" = none
  n_len : mg "len" = none
  n_list : mg "list" = none
  n_max : mg "max" = none
  n_min : mg "min" = none
  n_range : mg "range" = none
  n_sum : mg "sum" = none
  m_OWN_WORDS : U.MgV mg "OWN_WORDS" (.ref A.a_OWN_WORDS)
  q_OWN_WORDS : KTab w K A.a_OWN_WORDS (kv_OWN_WORDS A)
  m_SMALL_LETTERS : U.MgV mg "SMALL_LETTERS" (.str "abcdefghijklmnopqrstuvwxyz")
  m_CAPITALS : U.MgV mg "CAPITALS" (.str "ABCDEFGHIJKLMNOPQRSTUVWXYZ")
  m_DIGITS : U.MgV mg "DIGITS" (.str "0123456789")
  m_SIGNS : U.MgV mg "SIGNS" (.str "(){}[]<>=,;:.|+-*/@^_")
  m_SORTS : U.MgV mg "SORTS" (.ref A.a_SORTS)
  q_SORTS : KTab w K A.a_SORTS (kv_SORTS A)
  m_KindError : mg "KindError" = some (.ref A.c_KindError)
  m_BadText : mg "BadText" = some (.ref A.c_BadText)
  ox_BadText : OexC K A.c_BadText
  xf_BadText : XfC K A.c_BadText
  te_BadText : PySem.W.exmOne K (.ref A.c_BadText) (.ref A.c_BadText) = some true
  i_BadText : PySem.W.findIn K (.ref A.c_BadText) "__init__" = some (some (.ref A.a_BadText_init))
  t_BadText : PySem.W.typeIn K (.ref A.a_BadText_init) = some (.type "function")
  no_BadText_at : PySem.W.findIn K (.ref A.c_BadText) "at" = some none
end Toy
namespace Toy
open PySem L2 U
local macro_rules | `(tactic| walk_at "w") => `(tactic| repeat (first
  | refine ⟨_, rfl, ?_⟩
  | refine ⟨_, _, rfl, rfl, ?_⟩
  | refine Or.inr ⟨_, rfl, ?_⟩
  | refine Or.inl ⟨rfl, ?_⟩
  | refine Or.inl ⟨_, _, rfl, rfl, ?_⟩
  | refine Or.inl ⟨_, rfl, U.sz (by omega), ?_⟩
  | refine Or.inr ⟨_, _, rfl, rfl, ?_⟩
  | refine Or.inl ⟨_, _, _, _, rfl, rfl, (by first | assumption | exact SqL.of (by assumption) | exact SqL.of upd_same), (by rfl), ?_⟩
  | refine ⟨_, _, _, _, rfl, rfl, (by first | assumption | exact upd_same), (by rfl), ?_⟩
  | refine Or.inr ⟨_, _, rfl, (by first | exact Or.inl (by assumption) | exact Or.inl (SqL.of (by assumption)) | exact Or.inl (SqL.of upd_same) | exact Or.inr (SqT.of upd_same) | exact Or.inr (by assumption)), (by rfl), (by rfl), ?_⟩
  | refine Or.inr ⟨_, _, rfl, Or.inl (by first | assumption | exact SqL.of (by assumption) | exact SqL.of upd_same), ?_⟩
  | refine ⟨_, _, rfl, ?_⟩
  | refine And.intro (Or.inl ⟨rfl, _, SqL.of (by first | assumption | exact upd_same)⟩) ?_
  | refine ⟨_, _, _, rfl, rfl, (by first | assumption | exact upd_same), U.szl (by first | omega | (rw [List.length_map]; omega) | (show _ < 100000; decide)), ?_⟩
  | refine ⟨U.sz (by first | decide | (simp only [List.length_cons, List.length_nil]; decide)), ?_⟩
  | refine And.intro (by first | omega | decide) ?_
  | refine And.intro ⟨by omega, by omega⟩ ?_
  | refine And.intro (Or.inl ⟨by omega, by omega⟩) ?_
  | refine And.intro (Or.inr ⟨by omega, by omega⟩) ?_
  | refine And.intro ⟨by omega, by omega, by omega⟩ ?_
  | refine U.ifT (by omega) ?_
  | refine U.ifF (by omega) ?_
  | refine U.ifTi (by omega) ?_
  | refine U.ifFi (by omega) ?_))
section
open PySem.Spec PyProof.Rows
/-- the value at a key of a written dict -/
def tabGet (kvs : List (Str × V)) (z : Str) : Option V := (kvs.find? fun p => p.1 == z).map (·.2)
theorem tab_find {kvs : List (Str × V)} {es : List DictEntry} (h : Paired (fun (p : Str × V) (e : DictEntry) => (∃ t, e.key = .str p.1 t) ∧ RelV p.2 e.val) kvs es) (z : Str) :
    (tabGet kvs z = none ∧ es.find? (fun d => d.key.isStr z) = none) ∨ ∃ v e, tabGet kvs z = some v ∧ es.find? (fun d => d.key.isStr z) = some e ∧ RelV v e.val := by
  induction h with
  | nil => exact .inl ⟨rfl, rfl⟩
  | @cons p e ps es a r ih =>
    obtain ⟨⟨t, hk⟩, rv⟩ := a
    have ek : e.key.isStr z = (p.1 == z) := by rw [hk] <;> rfl
    cases hb : p.1 == z with
    | true =>
      refine .inr ⟨p.2, e, ?_, ?_, rv⟩
      · unfold tabGet
        rw [List.find?_cons_of_pos (by exact hb)] <;> rfl
      · rw [List.find?_cons_of_pos (by rw [ek, hb])]
    | false =>
      have e1 : tabGet (p :: ps) z = tabGet ps z := by
        unfold tabGet
        rw [List.find?_cons_of_neg (by rw [hb]; decide)]
      have e2 : (e :: es).find? (fun d => d.key.isStr z) = es.find? (fun d => d.key.isStr z) := by
        rw [List.find?_cons_of_neg (by rw [ek, hb]; decide)]
      rw [e1, e2]
      exact ih
theorem tab_ref {kvs : List (Str × V)} {es : List DictEntry} (h : Paired (fun (p : Str × V) (e : DictEntry) => (∃ t, e.key = .str p.1 t) ∧ RelV p.2 e.val) kvs es) : es.any (·.refKey) = false := by
  induction h with
  | nil => rfl
  | @cons p e ps es a r ih =>
    obtain ⟨⟨t, hk⟩, rv⟩ := a
    rw [List.any_cons, ih, Bool.or_false]
    unfold DictEntry.refKey
    rw [hk]
theorem KTab.get {w : World} {K : PySem.W.Frag} {d : Addr} {kvs : List (Str × V)} (h : KTab w K d kvs) (z : Str) :
    ∃ es n, KDict K w d es n ∧ ((tabGet kvs z = none ∧ PySem.W.nsIn K d z = some none) ∨ ∃ v u, tabGet kvs z = some v ∧ PySem.W.nsIn K d z = some (some u) ∧ RelV v u) := by
  obtain ⟨es, n, D, p⟩ := h
  refine ⟨es, n, D, ?_⟩
  have e : PySem.W.nsIn K d z = (match es.toList.find? (·.key.isStr z) with
      | some e => some (some e.val)
      | none => if es.toList.any (·.refKey) then none else some none) := by
    unfold PySem.W.nsIn
    rw [D.at_] <;> rfl
  rw [e]
  rcases tab_find p z with ⟨h1, h2⟩ | ⟨v, en, h1, h2, h3⟩
  · refine .inl ⟨h1, ?_⟩
    rw [h2, tab_ref p] <;> rfl
  · refine .inr ⟨v, en.val, h1, ?_, h3⟩
    rw [h2]
variable {X : Cx} {K : PySem.W.Frag} {w : World}
theorem op_inT (hK : X.K = K) (hw : X.w = w) : OpR X (compareOp .In) (fun x y H Q => ∃ (z : Str) (d : Addr) (kvs : List (Str × V)), x = .str z ∧ y = .ref d ∧ KTab w K d kvs ∧ Q (.bl (tabGet kvs z).isSome) H) := by
  subst hK hw
  intro pins s σ H x y v u Q I rx ry h
  obtain ⟨z, d, kvs, rfl, rfl, ht, q⟩ := h
  obtain ⟨es, n, D, hg⟩ := ht.get z
  rcases hg with ⟨h1, h2⟩ | ⟨v1, u1, h1, h2, h3⟩
  · exact op_in_kd D pins s σ H _ _ _ _ Q I rx ry ⟨z, none, rfl, rfl, h2, by rw [h1] at q; exact q⟩
  · exact op_in_kd D pins s σ H _ _ _ _ Q I rx ry ⟨z, some u1, rfl, rfl, h2, by rw [h1] at q; exact q⟩
theorem op_notInT (hK : X.K = K) (hw : X.w = w) : OpR X (compareOp .NotIn) (fun x y H Q => ∃ (z : Str) (d : Addr) (kvs : List (Str × V)), x = .str z ∧ y = .ref d ∧ KTab w K d kvs ∧ Q (.bl (!(tabGet kvs z).isSome)) H) := by
  subst hK hw
  intro pins s σ H x y v u Q I rx ry h
  obtain ⟨z, d, kvs, rfl, rfl, ht, q⟩ := h
  obtain ⟨es, n, D, hg⟩ := ht.get z
  rcases hg with ⟨h1, h2⟩ | ⟨v1, u1, h1, h2, h3⟩
  · exact op_notIn_kd D pins s σ H _ _ _ _ Q I rx ry ⟨z, none, rfl, rfl, h2, by rw [h1] at q; exact q⟩
  · exact op_notIn_kd D pins s σ H _ _ _ _ Q I rx ry ⟨z, some u1, rfl, rfl, h2, by rw [h1] at q; exact q⟩
theorem ix_tab (hK : X.K = K) (hw : X.w = w) : IxR X (fun x y H Q => ∃ (z : Str) (d : Addr) (kvs : List (Str × V)) (v : V), x = .ref d ∧ y = .str z ∧ KTab w K d kvs ∧ tabGet kvs z = some v ∧ Q v H) := by
  subst hK hw
  intro value slice pins s σ H x y v u Q I rx ry h hs
  obtain ⟨z, d, kvs, v0, rfl, rfl, ht, hv, q⟩ := h
  obtain ⟨es, n, D, hg⟩ := ht.get z
  rcases hg with ⟨h1, h2⟩ | ⟨v1, u1, h1, h2, h3⟩
  · rw [hv] at h1
    cases h1
  · rw [hv] at h1
    cases h1
    exact ix_kdict value slice pins s σ H _ _ _ _ Q I rx ry ⟨d, z, v0, rfl, rfl, ⟨es, n, u1, D.at_, D.lit, h2, h3⟩, q⟩ hs
end
section
variable {P : Program} {w : World} {K : PySem.W.Frag} {mg : Str → Option Value} {base : Heap} {A : Ad}
def inR (lo hi c : Nat) : Bool := decide (lo ≤ c) && decide (c ≤ hi)
def runLen (p : Nat → Bool) : List Nat → Nat → Nat
  | c :: r, m + 1 => if p c then runLen p r m + 1 else 0
  | _, _ => 0
theorem runLen_step {p : Nat → Bool} {l : List Nat} {j m c : Nat} (h : l[j]? = some c) (hp : p c = true) (hm : 0 < m) : runLen p (l.drop j) m = 1 + runLen p (l.drop (j + 1)) (m - 1) := by
  obtain ⟨m, rfl⟩ : ∃ k, m = k + 1 := ⟨m - 1, by omega⟩
  obtain ⟨hj, e⟩ := List.getElem?_eq_some_iff.mp h
  rw [List.drop_eq_getElem_cons hj, e]
  show (if p c then _ else _) = _
  rw [if_pos hp, Nat.add_comm]
  rfl
theorem runLen_stop {p : Nat → Bool} {l : List Nat} {j m c : Nat} (h : l[j]? = some c) (hp : p c = false) : runLen p (l.drop j) m = 0 := by
  obtain ⟨hj, e⟩ := List.getElem?_eq_some_iff.mp h
  rw [List.drop_eq_getElem_cons hj, e]
  cases m with
  | zero => rfl
  | succ m =>
    show (if p c then _ else _) = _
    rw [hp] <;> rfl
theorem runLen_end {p : Nat → Bool} {l : List Nat} {j m : Nat} (h : l.length ≤ j) : runLen p (l.drop j) m = 0 := by
  rw [List.drop_eq_nil_of_le h]
  cases m <;> rfl
theorem runLen_zero {p : Nat → Bool} {l : List Nat} : runLen p l 0 = 0 := by
  cases l <;> rfl
theorem runLen_take (p : Nat → Bool) : ∀ (l : List Nat) (m : Nat), ((l.take m).takeWhile p).length = runLen p l m
  | [], m => by cases m <;> rfl
  | c :: r, 0 => rfl
  | c :: r, m + 1 => by
    rw [List.take_succ_cons, List.takeWhile_cons]
    show _ = (if p c then runLen p r m + 1 else 0)
    cases h : p c with
    | true =>
      rw [if_pos rfl, if_pos rfl, List.length_cons, runLen_take p r m]
    | false => rw [if_neg (by decide), if_neg (by decide)] <;> rfl
theorem runLen_congr {p q : Nat → Bool} (h : ∀ c, p c = q c) (l : List Nat) (m : Nat) : runLen p l m = runLen q l m := by
  rw [show p = q from funext h]
theorem lstrip_len (a b : Str) : (PySem.Txt.lstripChars a b).length + (a.cps.toList.takeWhile fun c => decide (c ∈ b.cps.toList)).length = a.length := by
  have e : PySem.Txt.lstripChars a b = PySem.Builtin.Str.strSub a (PySem.stripLo b.cps.contains true a) (PySem.stripHi b.cps.contains false a (PySem.stripLo b.cps.contains true a)) := PyProof.Rows.stripBy_eq _ _ _ _
  rw [e]
  have e1 : PySem.stripLo b.cps.contains true a = (a.cps.toList.takeWhile fun c => decide (c ∈ b.cps.toList)).length := by
    show (a.cps.toList.takeWhile b.cps.contains).length = _
    rw [show b.cps.contains = fun c => decide (c ∈ b.cps.toList) from funext fun c => by
      rw [← Array.contains_toList, List.contains_eq_mem]]
  have e2 : PySem.stripHi b.cps.contains false a (PySem.stripLo b.cps.contains true a) = a.length := rfl
  rw [e2, e1]
  have hle := PyProof.Rows.takeWhile_len_le (fun c => decide (c ∈ b.cps.toList)) a.cps.toList
  have ez := U.zlen a
  show (a.cps.extract _ a.length).size + _ = _
  rw [Array.size_extract]
  show min a.cps.size a.cps.size - _ + _ = a.cps.size
  have : a.cps.size = a.cps.toList.length := by simp
  omega
/-- the signs of a text -/
def memB (sg : Str) (c : Nat) : Bool := decide (c ∈ sg.cps.toList)
theorem memB_run {sg : Str} {lo n hi : Nat} (e : sg.cps.toList = List.range' lo n) (h : hi + 1 = lo + n) : memB sg = inR lo hi := by
  funext c
  unfold memB inR
  rw [e]
  by_cases h1 : lo ≤ c
  · by_cases h2 : c ≤ hi
    · rw [decide_eq_true (List.mem_range'_1.mpr ⟨h1, by omega⟩), decide_eq_true h1, decide_eq_true h2] <;> rfl
    · rw [decide_eq_false (fun q => h2 (by have := List.mem_range'_1.mp q; omega)), decide_eq_false h2, Bool.and_false]
  · rw [decide_eq_false (fun q => h1 (by have := List.mem_range'_1.mp q; omega)), decide_eq_false h1, Bool.false_and]
theorem mem_small : memB "abcdefghijklmnopqrstuvwxyz" = inR 97 122 := memB_run (lo := 97) (n := 26) (by decide +kernel) rfl
theorem mem_big : memB "ABCDEFGHIJKLMNOPQRSTUVWXYZ" = inR 65 90 := memB_run (lo := 65) (n := 26) (by decide +kernel) rfl
theorem mem_dig : memB "0123456789" = inR 48 57 := memB_run (lo := 48) (n := 10) (by decide +kernel) rfl
theorem mem_dig1 : memB "123456789" = inR 49 57 := memB_run (lo := 49) (n := 9) (by decide +kernel) rfl
theorem cut_listI (z : Str) (i j : Nat) : (cutS z (some (i : Int)) (some (j : Int))).cps.toList = (z.cps.toList.drop i).take (j - i) := by
  unfold cutS
  rw [HT.sIx_nat, HT.sIx_nat]
  have e := U.zlen z
  show (List.take (min j z.length - min i z.length) (List.drop (min i z.length) z.cps.toList)) = _
  by_cases hi : i ≤ z.length
  · rw [Nat.min_eq_left hi]
    by_cases hj : j ≤ z.length
    · rw [Nat.min_eq_left hj]
    · rw [Nat.min_eq_right (by omega), List.take_of_length_le (by rw [List.length_drop]; omega), List.take_of_length_le (by rw [List.length_drop]; omega)]
  · rw [Nat.min_eq_right (show z.length ≤ i by omega), List.drop_eq_nil_of_le (show z.cps.toList.length ≤ z.length by omega), List.drop_eq_nil_of_le (show z.cps.toList.length ≤ i by omega), List.take_nil, List.take_nil]
def spRun : Sp := fun vs H Q _ => ∃ (z : Str) (b : Nat) (g : Str) (m : Nat), vs = [.str z, .int b, .str g, .int m] ∧ z.length ≤ 10000 ∧ Q (.int ((b + runLen (memB g) (z.cps.toList.drop b) m : Nat) : Int)) H
theorem ok_run_end (T : Top w K mg A) : FnOk P w K mg base CX0 1 A.a_run_end A.fd_run_end ["text", "begin", "signs", "most"] spRun := by
  refine T.F_run_end.ok sc_run_end (fun vs H Q E h => ?_) (fun cdv A outer s H vs Q E hr h => ?_)
  · obtain ⟨z, b, g, m, rfl, _⟩ := h
    rfl
  · obtain ⟨z, b, g, m, rfl, hz, k⟩ := h
    refine ⟨_, (pss_cons (ps_set (i := 4) sc_run_end.nd rfl (Or.inl rfl) (pe_slice (U.uSl (K := K) rfl) (pv 0) (po_some (pv 1)) (po_some (pe_op U.uAdd (pv 1) (pv 3)))))
    (pss_one (ps_ret (pe_op op_sub (pe_op U.uAdd (pv 1) (pe_callB (U.uLen (K := K) rfl) (by rfl) T.n_len (by decide +kernel) (pa_cons (pv 4) pa_nil))) (pe_callB (U.uLen (K := K) rfl) (by rfl) T.n_len (by decide +kernel) (pa_cons (pe_bm PySem.F.plainAttrs_str PySem.F.slot_str_lstrip PySem.F.type_str_lstrip mt_lstripChars (pv 4) (pa_cons (pv 2) pa_nil)) pa_nil)))))), ?_⟩
    walk_at "w"
    have hl : (cutS z (some (b : Int)) (some ((b : Int) + (m : Int)))).length ≤ 10000 := Nat.le_trans (cutS_length z _ _) hz
    have e := lstrip_len (cutS z (some (b : Int)) (some ((b : Int) + (m : Int)))) g
    have e3 : (cutS z (some (b : Int)) (some ((b : Int) + (m : Int)))).cps.toList = (z.cps.toList.drop b).take m := by
      have := cut_listI z b (b + m)
      rw [show b + m - b = m by omega] at this
      exact this
    rw [e3, runLen_take] at e
    walk_at "w"
    refine And.intro (by first | rfl | trivial | exact ⟨_, rfl⟩) ?_
    have hl2 : (PySem.Txt.lstripChars (cutS z (some (b : Int)) (some ((b : Int) + (m : Int)))) g).length ≤ 10000 := by omega
    walk_at "w"
    refine And.intro (U.sz (by omega)) ?_
    walk_at "w"
    have e4 : ((b : Int) + ((cutS z (some (b : Int)) (some ((b : Int) + (m : Int)))).length : Int)) - ((PySem.Txt.lstripChars (cutS z (some (b : Int)) (some ((b : Int) + (m : Int)))) g).length : Int) = ((b + runLen (memB g) (z.cps.toList.drop b) m : Nat) : Int) := by
      have : runLen (memB g) (z.cps.toList.drop b) m = runLen (fun c => decide (c ∈ g.cps.toList)) (z.cps.toList.drop b) m := rfl
      omega
    rw [← e4] at k
    exact k
end
section
variable {P : Program} {w : World} {K : PySem.W.Frag} {mg : Str → Option Value} {base : Heap} {A : Ad}
theorem ok_law_cell (T : Top w K mg A) : FnOk P w K mg base CX0 1 A.a_law_cell A.fd_law_cell ["script", "k"] (U.spCell K) := by
  refine T.F_law_cell.ok sc_law_cell (fun vs H Q E h => ?_) (fun cdv A outer s H vs Q E hr h => ?_)
  · obtain ⟨a, ns, k, rfl, _⟩ := h
    rfl
  · obtain ⟨a, ns, k, rfl, hS, hl, h0, h1, q⟩ := h
    refine ⟨_, (pss_one (ps_ret (pe_ifExp (pt_cmpR U.uLt (pv 1) (pe_callB (U.uLen (K := K) rfl) (by rfl) T.n_len (by decide +kernel) (pa_cons (pv 0) pa_nil)) (nomark _)) (pe_ix (U.uIx (K := K) rfl) (pv 0) (pv 1) (fun _ _ => rfl)) (pe_op U.uAdd (pe_op U.uAdd (pe_op U.uMul pe_int (pv 1)) pe_int) (pe_op op_mod (pe_callB (U.uSum (K := K) rfl rfl) (by rfl) T.n_sum (by decide +kernel) (pa_cons (pe_slice (U.uSl (K := K) rfl) (pv 0) po_none (po_some pe_int)) pa_nil)) pe_int))))), ?_⟩
    walk_at "w"
    rw [List.length_map]
    refine U.ifD (fun hk => ?_) (fun hk => ?_)
    · obtain ⟨j, rfl⟩ := Int.eq_ofNat_of_zero_le h0
      obtain ⟨c, hc⟩ : ∃ c, ns[j]? = some c := ⟨_, List.getElem?_eq_getElem (by omega)⟩
      walk_at "w"
      refine Or.inl ⟨_, _, _, _, rfl, rfl, hS, U.atN j rfl (by rw [List.getElem?_map, hc] <;> rfl), ?_⟩
      exact q _ _ (Same.refl _)
    · walk_at "w"
      refine Or.inr ⟨_, _, rfl, hS, fun p hp => ?_⟩
      obtain ⟨ms, e⟩ := U.cut_map ns none (some 1)
      refine ⟨p, ms, rfl, SqL.of ?_, ?_⟩
      · rw [← e]
        exact upd_same
      · walk_at "w"
        exact q _ _ (U.same_new hp)
theorem ok_law_box (T : Top w K mg A) : FnOk P w K mg base CX0 1 A.a_law_box A.fd_law_box ["cell"] U.spBox := by
  refine T.F_law_box.ok sc_law_box (fun vs H Q E h => ?_) (fun cdv A outer s H vs Q E hr h => ?_)
  · obtain ⟨c, rfl, _⟩ := h
    rfl
  · obtain ⟨c, rfl, q⟩ := h
    refine ⟨_, (pss_one (ps_ret (pe_lst (pa_cons (pe_callB (call_max2 rfl) (by rfl) T.n_max (by decide +kernel) (pa_cons pe_int (pa_cons (pe_op op_sub (pv 0) (pe_op op_pow pe_int pe_int)) pa_nil))) (pa_cons (pe_op op_mod (pv 0) pe_int) (pa_cons pe_int pa_nil)))))), ?_⟩
    walk_at "w"
    intro p hp
    have h1 := Int.emod_nonneg c (show (2147483629 : Int) ≠ 0 by decide)
    have h2 := Int.emod_lt_of_pos c (show (0 : Int) < 2147483629 by decide)
    refine q _ _ hp ⟨_, _, _, upd_same, ?_, h1, by omega, by omega, by omega⟩ (U.same_new hp)
    split <;> omega
theorem ok_law_take (T : Top w K mg A) : FnOk P w K mg base CX0 1 A.a_law_take A.fd_law_take ["box", "many"] U.spTake := by
  refine T.F_law_take.ok sc_law_take (fun vs H Q E h => ?_) (fun cdv A outer s H vs Q E hr h => ?_)
  · obtain ⟨p, m, n, rfl, _⟩ := h
    rfl
  · obtain ⟨p, m, n, rfl, ⟨b0, b1, b2, hp, h0, h1, h2, h3, h4⟩, hn, hm, hm2, q⟩ := h
    refine ⟨_, (pss_cons (ps_if (pt_cmpR U.uGt (pe_ix (U.uIx (K := K) rfl) (pv 0) pe_int (fun _ _ => rfl)) pe_int (nomark _)) (pss_cons (ps_set (i := 2) sc_law_take.nd rfl (Or.inl rfl) (pe_op op_mod (pe_ix (U.uIx (K := K) rfl) (pv 0) pe_int (fun _ _ => rfl)) (pv 1)))
    (pss_cons (ps_asg (pe_op op_fdiv (pe_ix (U.uIx (K := K) rfl) (pv 0) pe_int (fun _ _ => rfl)) (pv 1)) (pg_sub (pv 0) pe_int set_list))
    (pss_one (ps_ret (pv 2))))) pss_nil)
    (pss_cons (ps_asg (pe_op U.uAdd (pe_ix (U.uIx (K := K) rfl) (pv 0) pe_int (fun _ _ => rfl)) pe_int) (pg_sub (pv 0) pe_int set_list))
    (pss_cons (ps_set (i := 3) sc_law_take.nd rfl (Or.inl rfl) (pe_op op_mod (pe_op op_pow (pe_op U.uAdd (pe_op U.uAdd (pe_ix (U.uIx (K := K) rfl) (pv 0) pe_int (fun _ _ => rfl)) (pe_op U.uMul pe_int (pe_ix (U.uIx (K := K) rfl) (pv 0) pe_int (fun _ _ => rfl)))) pe_int) pe_int) pe_int))
    (pss_cons (ps_set (i := 3) sc_law_take.nd rfl (Or.inl rfl) (pe_op op_mod (pe_op op_pow (pe_op U.uAdd (pv 3) (pe_op U.uMul pe_int (pe_ix (U.uIx (K := K) rfl) (pv 0) pe_int (fun _ _ => rfl)))) pe_int) pe_int))
    (pss_one (ps_ret (pe_op op_mod (pe_op op_fdiv (pv 3) pe_int) (pv 1)))))))), ?_⟩
    walk_at "w"
    refine U.ifD (fun hb => ?_) (fun hb => ?_)
    · walk_at "w"
      refine q _ _ (Int.emod_nonneg _ (by omega)) (Int.emod_lt_of_pos _ hm) ⟨_, _, _, upd_same, Int.ediv_nonneg h0 (by omega), h1, h2, h3, by omega⟩ (U.SameBut.refl _ _).upd
    · walk_at "w"
      refine q _ _ (Int.emod_nonneg _ (by omega)) (Int.emod_lt_of_pos _ hm) ⟨_, _, _, upd_same, h0, h1, h2, by omega, ?_⟩ (U.SameBut.refl _ _).upd
      show b2 + 1 ≤ ((n + 1 : Nat) : Int)
      omega
end
section
variable {P : Program} {w : World} {K : PySem.W.Frag} {mg : Str → Option Value} {base : Heap} {A : Ad}
theorem l_a : (Str.ofString "a") = (⟨#[97]⟩ : Str) := by decide +kernel
theorem l_z : (Str.ofString "z") = (⟨#[122]⟩ : Str) := by decide +kernel
theorem l_A : (Str.ofString "A") = (⟨#[65]⟩ : Str) := by decide +kernel
theorem l_Z : (Str.ofString "Z") = (⟨#[90]⟩ : Str) := by decide +kernel
theorem l_0 : (Str.ofString "0") = (⟨#[48]⟩ : Str) := by decide +kernel
theorem l_1 : (Str.ofString "1") = (⟨#[49]⟩ : Str) := by decide +kernel
theorem l_9 : (Str.ofString "9") = (⟨#[57]⟩ : Str) := by decide +kernel
theorem l_ar : (Str.ofString "->") = (⟨#[45, 62]⟩ : Str) := by decide +kernel
/-- a cut of one sign -/
theorem str_ext {a b : Str} (h : a.cps.toList = b.cps.toList) : a = b := by
  obtain ⟨⟨l⟩⟩ := a
  obtain ⟨⟨m⟩⟩ := b
  exact congrArg (fun l => Str.mk (Array.mk l)) h
theorem cut_list (z : Str) (i j : Nat) : (cutS z (some (i : Int)) (some (j : Int))).cps.toList = (z.cps.toList.drop i).take (j - i) := by
  unfold cutS
  rw [HT.sIx_nat, HT.sIx_nat]
  have e := U.zlen z
  show (List.take (min j z.length - min i z.length) (List.drop (min i z.length) z.cps.toList)) = _
  by_cases hi : i ≤ z.length
  · rw [Nat.min_eq_left hi]
    by_cases hj : j ≤ z.length
    · rw [Nat.min_eq_left hj]
    · rw [Nat.min_eq_right (by omega), List.take_of_length_le (by rw [List.length_drop]; omega), List.take_of_length_le (by rw [List.length_drop]; omega)]
  · rw [Nat.min_eq_right (show z.length ≤ i by omega), List.drop_eq_nil_of_le (show z.cps.toList.length ≤ z.length by omega), List.drop_eq_nil_of_le (show z.cps.toList.length ≤ i by omega), List.take_nil, List.take_nil]
theorem drop1 (l : List Nat) (i : Nat) : (l.drop i).take 1 = match l[i]? with | some c => [c] | none => [] := by
  by_cases h : i < l.length
  · rw [List.drop_eq_getElem_cons h, List.getElem?_eq_getElem h] <;> rfl
  · rw [List.drop_eq_nil_of_le (by omega), List.getElem?_eq_none (by omega)] <;> rfl
theorem cut1_is (z : Str) (i c : Nat) : cutS z (some (i : Int)) (some ((i : Int) + 1)) = (⟨#[c]⟩ : Str) ↔ z.cps.toList[i]? = some c := by
  have e : cutS z (some (i : Int)) (some ((i : Int) + 1)) = cutS z (some (i : Int)) (some ((i + 1 : Nat) : Int)) := rfl
  rw [e]
  have h := cut_list z i (i + 1)
  rw [show i + 1 - i = 1 by omega, drop1] at h
  constructor
  · intro q
    rw [q] at h
    cases hz : z.cps.toList[i]? with
    | none => rw [hz] at h; exact nomatch h
    | some d =>
      rw [hz] at h
      have h' : [c] = [d] := h
      rw [List.singleton_inj.mp h']
  · intro q
    rw [q] at h
    exact str_ext h
def wordEnd (l : List Nat) (b : Nat) : Nat :=
  if runLen (inR 97 122) (l.drop b) 6 = 0 ∨ l[b + runLen (inR 97 122) (l.drop b) 6]? = some 48 then b + runLen (inR 97 122) (l.drop b) 6
  else b + runLen (inR 97 122) (l.drop b) 6 + runLen (inR 48 57) (l.drop (b + runLen (inR 97 122) (l.drop b) 6)) 3
def tagEnd (l : List Nat) (b : Nat) : Nat := if runLen (inR 65 90) (l.drop b) 1 = 0 then b else b + 1 + runLen (inR 97 122) (l.drop (b + 1)) 5
def numEnd (l : List Nat) (b : Nat) : Nat := if l[b]? = some 48 then b + 1 else b + runLen (inR 48 57) (l.drop b) l.length
/-- a def from a text and a place to a place -/
def spEnd (f : List Nat → Nat → Nat) : Sp := fun vs H Q _ => ∃ (z : Str) (b : Nat), vs = [.str z, .int b] ∧ z.length ≤ 10000 ∧ ∀ H', Same H H' → Q (.int ((f z.cps.toList b : Nat) : Int)) H'
theorem cut1_list (z : Str) (i : Nat) : (cutS z (some (i : Int)) (some ((i : Int) + 1))).cps.toList = match z.cps.toList[i]? with | some c => [c] | none => [] := by
  have h := cut_list z i (i + 1)
  rw [show i + 1 - i = 1 by omega, drop1] at h
  exact h
theorem ok_word_end (T : Top w K mg A) : FnOk P w K mg base CX0 2 A.a_word_end A.fd_word_end ["text", "begin"] (spEnd wordEnd) := by
  refine T.F_word_end.ok sc_word_end (fun vs H Q E h => ?_) (fun cdv A outer s H vs Q E hr h => ?_)
  · obtain ⟨z, b, rfl, _⟩ := h
    rfl
  · obtain ⟨z, b, rfl, hz, k⟩ := h
    refine ⟨_, (pss_cons (ps_set (i := 2) sc_word_end.nd rfl (Or.inl rfl) (pe_call (ok_run_end T) (hr.mono (by decide)) rfl T.m_run_end T.F_run_end.kp T.b_run_end .nil pass0 (pa_cons (pv 0) (pa_cons (pv 1) (pa_cons (U.pe_con_ T.m_SMALL_LETTERS) (pa_cons pe_int pa_nil))))))
    (pss_cons (ps_if (PW.pt (pw_or (pt_cmpR (U.uEq (K := K) rfl hr.units) (pv 2) (pv 1) (nomark _)) (pw_or1 (pt_not (pt_chain U.uLe U.uLe pe_str (pe_slice (U.uSl (K := K) rfl) (pv 0) (po_some (pv 2)) (po_some (pe_op U.uAdd (pv 2) pe_int))) pe_str))))) (pss_one (ps_ret (pv 2))) pss_nil)
    (pss_one (ps_ret (pe_call (ok_run_end T) (hr.mono (by decide)) rfl T.m_run_end T.F_run_end.kp T.b_run_end .nil pass0 (pa_cons (pv 0) (pa_cons (pv 2) (pa_cons (U.pe_con_ T.m_DIGITS) (pa_cons pe_int pa_nil))))))))), ?_⟩
    walk_at "w"
    refine ⟨z, b, _, 6, rfl, hz, ?_⟩
    rw [mem_small]
    walk_at "w"
    have k := k H (Same.refl H)
    unfold wordEnd at k
    refine U.ifDi (fun h1 => ?_) (fun h1 => ?_)
    · walk_at "w"
      rw [if_pos (.inl (by omega))] at k
      exact k
    · walk_at "w"
      have h1 : ¬ runLen (inR 97 122) (z.cps.toList.drop b) 6 = 0 := fun q => h1 (by rw [q] <;> rfl)
      generalize hL : b + runLen (inR 97 122) (z.cps.toList.drop b) 6 = L at k ⊢
      have no : runLen (inR 48 57) (z.cps.toList.drop L) 3 = 0 ∨ z.cps.toList[L]? = some 48 → Q (.int (L : Int)) H := fun q => by
        split at k
        · exact k
        · rename_i n
          rcases q with q | q
          · rw [q, Nat.add_zero] at k
            exact k
          · exact absurd (.inr q) n
      cases hd : z.cps.toList[L]? with
      | none =>
        have e1 : cutS z (some (L : Int)) (some ((L : Int) + 1)) = (⟨#[]⟩ : Str) := str_ext (by rw [cut1_list, hd])
        rw [e1, l_1]
        refine U.ifB false (by decide) (iteF ?_)
        refine ⟨_, rfl, ?_⟩
        refine iteT ?_
        walk_at "w"
        exact no (.inl (runLen_end (by have := List.getElem?_eq_none_iff.mp hd; omega)))
      | some d =>
        have e1 := (cut1_is z L d).mpr hd
        rw [e1, l_1, l_9]
        refine U.ifB _ (U.le1 49 d) (U.ifD (fun h2 => ?_) (fun h2 => ?_))
        · walk_at "w"
          by_cases h3 : d ≤ 57
          · refine U.ifB false (by rw [U.le1 d 57, decide_eq_true h3] <;> rfl) (iteF ?_)
            walk_at "w"
            rw [if_neg (fun q => q.elim h1 fun q => by rw [hd] at q; have := Option.some.inj q; omega)] at k
            refine ⟨z, L, _, 3, rfl, hz, ?_⟩
            rw [mem_dig]
            exact k
          · refine U.ifB true (by rw [U.le1 d 57, decide_eq_false h3] <;> rfl) (iteT ?_)
            walk_at "w"
            refine no (.inl (runLen_stop hd ?_))
            unfold inR
            rw [decide_eq_false h3, Bool.and_false]
        · refine ⟨_, rfl, ?_⟩
          refine iteT ?_
          walk_at "w"
          by_cases h4 : d = 48
          · exact no (.inr (by rw [hd, h4]))
          · refine no (.inl (runLen_stop hd ?_))
            unfold inR
            rw [decide_eq_false (show ¬ 48 ≤ d by omega), Bool.false_and]
theorem ok_tag_end (T : Top w K mg A) : FnOk P w K mg base CX0 2 A.a_tag_end A.fd_tag_end ["text", "begin"] (spEnd tagEnd) := by
  refine T.F_tag_end.ok sc_tag_end (fun vs H Q E h => ?_) (fun cdv A outer s H vs Q E hr h => ?_)
  · obtain ⟨z, b, rfl, _⟩ := h
    rfl
  · obtain ⟨z, b, rfl, hz, k⟩ := h
    refine ⟨_, (pss_cons (ps_if (pt_cmpR (U.uEq (K := K) rfl hr.units) (pe_call (ok_run_end T) (hr.mono (by decide)) rfl T.m_run_end T.F_run_end.kp T.b_run_end .nil pass0 (pa_cons (pv 0) (pa_cons (pv 1) (pa_cons (U.pe_con_ T.m_CAPITALS) (pa_cons pe_int pa_nil))))) (pv 1) (nomark _)) (pss_one (ps_ret (pv 1))) pss_nil)
    (pss_one (ps_ret (pe_call (ok_run_end T) (hr.mono (by decide)) rfl T.m_run_end T.F_run_end.kp T.b_run_end .nil pass0 (pa_cons (pv 0) (pa_cons (pe_op U.uAdd (pv 1) pe_int) (pa_cons (U.pe_con_ T.m_SMALL_LETTERS) (pa_cons pe_int pa_nil)))))))), ?_⟩
    walk_at "w"
    refine ⟨z, b, _, 1, rfl, hz, ?_⟩
    rw [mem_big]
    walk_at "w"
    have k := k H (Same.refl H)
    unfold tagEnd at k
    refine U.ifDi (fun h1 => ?_) (fun h1 => ?_)
    · walk_at "w"
      rw [if_pos (by omega)] at k
      exact k
    · walk_at "w"
      rw [if_neg (by omega)] at k
      refine ⟨z, b + 1, _, 5, rfl, hz, ?_⟩
      rw [mem_small]
      exact k
theorem ok_number_end (T : Top w K mg A) : FnOk P w K mg base CX0 2 A.a_number_end A.fd_number_end ["text", "begin"] (spEnd numEnd) := by
  refine T.F_number_end.ok sc_number_end (fun vs H Q E h => ?_) (fun cdv A outer s H vs Q E hr h => ?_)
  · obtain ⟨z, b, rfl, _⟩ := h
    rfl
  · obtain ⟨z, b, rfl, hz, k⟩ := h
    refine ⟨_, (pss_cons (ps_if (pt_cmpR (U.uEq (K := K) rfl hr.units) (pe_slice (U.uSl (K := K) rfl) (pv 0) (po_some (pv 1)) (po_some (pe_op U.uAdd (pv 1) pe_int))) pe_str (nomark _)) (pss_one (ps_ret (pe_op U.uAdd (pv 1) pe_int))) pss_nil)
    (pss_one (ps_ret (pe_call (ok_run_end T) (hr.mono (by decide)) rfl T.m_run_end T.F_run_end.kp T.b_run_end .nil pass0 (pa_cons (pv 0) (pa_cons (pv 1) (pa_cons (U.pe_con_ T.m_DIGITS) (pa_cons (pe_callB (U.uLen (K := K) rfl) (by rfl) T.n_len (by decide +kernel) (pa_cons (pv 0) pa_nil)) pa_nil)))))))), ?_⟩
    walk_at "w"
    have k := k H (Same.refl H)
    unfold numEnd at k
    rw [l_0]
    refine U.ifDs (fun h1 => ?_) (fun h1 => ?_)
    · walk_at "w"
      rw [if_pos ((cut1_is _ _ _).mp h1)] at k
      exact k
    · walk_at "w"
      rw [if_neg (fun q => h1 ((cut1_is _ _ _).mpr q))] at k
      refine ⟨z, b, _, z.length, rfl, hz, ?_⟩
      rw [mem_dig, U.zlen z]
      exact k
end
section
variable {P : Program} {w : World} {K : PySem.W.Frag} {mg : Str → Option Value} {base : Heap} {A : Ad}
abbrev own : List V := (["fn", "let", "in", "rec", "match", "with", "fail", "num"] : List Str).map V.str
abbrev signs : Str := "(){}[]<>=,;:.|+-*/@^_"
def isSg (c : Nat) : Bool := decide (c ∈ signs.cps.toList)
def isQ (c : Nat) : Bool := decide (c = 39) || decide (c = 36)
def tokEnd (z : Str) (b : Nat) : Nat := match z.cps.toList[b]? with
  | none => b
  | some c =>
    if isQ c = true then (if wordEnd z.cps.toList (b + 1) = b + 1 ∨ inV (.str (cutS z (some ((b + 1 : Nat) : Int)) (some ((wordEnd z.cps.toList (b + 1) : Nat) : Int)))) own = true then b else wordEnd z.cps.toList (b + 1))
    else if c = 45 ∧ z.cps.toList[b + 1]? = some 62 then b + 2
    else if isSg c = true then b + 1
    else max (max (wordEnd z.cps.toList b) (tagEnd z.cps.toList b)) (numEnd z.cps.toList b)
theorem l_q : (Str.ofString "'") = (⟨#[39]⟩ : Str) := by decide +kernel
theorem l_d : (Str.ofString "$") = (⟨#[36]⟩ : Str) := by decide +kernel
theorem eq1 (c d : Nat) : decide ((⟨#[c]⟩ : Str) = ⟨#[d]⟩) = decide (d = c) := by
  by_cases h : d = c
  · subst h
    rw [decide_eq_true rfl, decide_eq_true rfl]
  · rw [decide_eq_false h, decide_eq_false (fun e => h ?_)]
    have e2 : (⟨#[c]⟩ : Str).cps.toList = (⟨#[d]⟩ : Str).cps.toList := by rw [e]
    exact (List.singleton_inj.mp e2).symm
theorem inQ (c : Nat) : inV (V.str ⟨#[c]⟩) [V.str (Str.ofString "'"), V.str (Str.ofString "$")] = isQ c := by
  rw [l_q, l_d]
  show ((⟨#[39]⟩ : Str) == (⟨#[c]⟩ : Str) || ((⟨#[36]⟩ : Str) == (⟨#[c]⟩ : Str) || false)) = _
  rw [Bool.or_false]
  have hb : ∀ a b : Str, (a == b) = decide (a = b) := fun a b => by
    by_cases h : a = b
    · rw [decide_eq_true h, h, beq_self_eq_true]
    · rw [decide_eq_false h, beq_eq_false_iff_ne.mpr h]
  rw [hb, hb, eq1, eq1]
  rfl
theorem cut2_is (z : Str) (b c : Nat) (hc : z.cps.toList[b]? = some c) : cutS z (some (b : Int)) (some ((b : Int) + 2)) = (⟨#[45, 62]⟩ : Str) ↔ c = 45 ∧ z.cps.toList[b + 1]? = some 62 := by
  have e : cutS z (some (b : Int)) (some ((b : Int) + 2)) = cutS z (some (b : Int)) (some ((b + 2 : Nat) : Int)) := rfl
  rw [e]
  have h := cut_list z b (b + 2)
  obtain ⟨hb, hbe⟩ := List.getElem?_eq_some_iff.mp hc
  rw [show b + 2 - b = 2 by omega, List.drop_eq_getElem_cons hb, hbe, List.take_succ_cons, drop1] at h
  constructor
  · intro q
    rw [q] at h
    cases hz : z.cps.toList[b + 1]? with
    | none =>
      rw [hz] at h
      exact nomatch h
    | some d =>
      rw [hz] at h
      have h' : [45, 62] = [c, d] := h
      injection h' with e1 e2
      injection e2 with e3 e4
      exact ⟨e1.symm, by rw [← e3]⟩
  · rintro ⟨rfl, q⟩
    rw [q] at h
    exact str_ext h
theorem max3_int (a b c : Nat) : nuMax3 (V.int (a : Int)) (V.int (b : Int)) (V.int (c : Int)) = some (V.int ((max (max a b) c : Nat) : Int)) := by
  have h : ∀ x y : Nat, nuMax2 (V.int (x : Int)) (V.int (y : Int)) = some (V.int ((max x y : Nat) : Int)) := fun x y => by
    show some (if decide ((x : Int) < (y : Int)) = true then V.int (y : Int) else V.int (x : Int)) = _
    by_cases h : x < y
    · rw [if_pos (decide_eq_true (by omega)), Nat.max_eq_right (by omega)]
    · rw [if_neg (fun q => h (by have := of_decide_eq_true q; omega)), Nat.max_eq_left (by omega)]
  unfold nuMax3
  rw [h]
  exact h _ _
theorem mem_q : ∀ c, memB "'$" c = isQ c := fun c => by
  unfold memB isQ
  rw [show (Str.ofString "'$").cps.toList = [39, 36] by decide +kernel]
  simp
theorem sg_list : signs.cps.toList = [40, 41, 123, 125, 91, 93, 60, 62, 61, 44, 59, 58, 46, 124, 43, 45, 42, 47, 64, 94, 95] := by decide +kernel
theorem not_sg {c : Nat} (h : c = 39 ∨ c = 36 ∨ (97 ≤ c ∧ c ≤ 122) ∨ (65 ≤ c ∧ c ≤ 90) ∨ (48 ≤ c ∧ c ≤ 57)) : isSg c = false := by
  unfold isSg
  rw [sg_list]
  simp only [List.mem_cons, List.not_mem_nil, or_false, decide_eq_false_iff_not]
  omega
theorem inR_t {a b c : Nat} (h : inR a b c = true) : a ≤ c ∧ c ≤ b := by
  unfold inR at h
  rw [Bool.and_eq_true] at h
  exact ⟨of_decide_eq_true h.1, of_decide_eq_true h.2⟩
theorem inR_f {a b c : Nat} (h : c < a ∨ b < c) : inR a b c = false := by
  unfold inR
  rcases h with h | h
  · rw [decide_eq_false (show ¬ a ≤ c by omega), Bool.false_and]
  · rw [decide_eq_false (show ¬ c ≤ b by omega), Bool.and_false]
theorem word_none {l : List Nat} {b c : Nat} (hc : l[b]? = some c) (h : inR 97 122 c = false) : wordEnd l b = b := by
  unfold wordEnd
  rw [runLen_stop hc h, if_pos (.inl rfl)]
  rfl
theorem word_out {l : List Nat} {b : Nat} (h : l.length ≤ b) : wordEnd l b = b := by
  unfold wordEnd
  rw [runLen_end h, if_pos (.inl rfl)]
  rfl
theorem tag_none {l : List Nat} {b c : Nat} (hc : l[b]? = some c) (h : inR 65 90 c = false) : tagEnd l b = b := by
  unfold tagEnd
  rw [runLen_stop hc h, if_pos rfl]
theorem tag_some {l : List Nat} {b c : Nat} (hc : l[b]? = some c) (h : inR 65 90 c = true) : tagEnd l b = b + 1 + runLen (inR 97 122) (l.drop (b + 1)) 5 := by
  unfold tagEnd
  rw [runLen_step hc h (by omega), if_neg (by omega)]
theorem num_none {l : List Nat} {b c : Nat} (hc : l[b]? = some c) (h : inR 48 57 c = false) : numEnd l b = b := by
  unfold numEnd
  rw [if_neg (fun q => by rw [hc] at q; rw [Option.some.inj q] at h; cases h), runLen_stop hc h]
  rfl
def sortOf (c : Nat) : Option Str := if inR 97 122 c then some "word" else if inR 65 90 c then some "tag" else if inR 48 57 c then some "number" else if c = 39 then some "'" else if c = 36 then some "$" else none
def tabS (A : Ad) : List (Str × Str) := (kv_SORTS A).map fun p => (p.1, match p.2 with | .str s => s | _ => "")
theorem tabS_get (A : Ad) (z : Str) : tabGet (kv_SORTS A) z = ((tabS A).find? fun p => p.1 == z).map fun p => V.str p.2 := by
  have h : ∀ p ∈ kv_SORTS A, ∃ s, p.2 = V.str s := fun p hp => by
    unfold kv_SORTS at hp
    simp only [List.mem_cons, List.not_mem_nil, or_false] at hp
    rcases hp with hp | hp | hp | hp | hp | hp | hp | hp | hp | hp | hp | hp | hp | hp | hp | hp | hp | hp | hp | hp | hp | hp | hp | hp | hp | hp | hp | hp | hp | hp | hp | hp | hp | hp | hp | hp | hp | hp | hp | hp | hp | hp | hp | hp | hp | hp | hp | hp | hp | hp | hp | hp | hp | hp | hp | hp | hp | hp | hp | hp | hp | hp | hp | hp <;> (rw [hp]; exact ⟨_, rfl⟩)
  unfold tabS
  generalize kv_SORTS A = l at h ⊢
  unfold tabGet
  induction l with
  | nil => rfl
  | cons p r ih =>
    obtain ⟨s, hs⟩ := h p (List.mem_cons_self ..)
    rw [List.map_cons]
    cases hb : p.1 == z with
    | true =>
      rw [List.find?_cons_of_pos (by exact hb), List.find?_cons_of_pos (by exact hb)]
      show some p.2 = some (V.str _)
      rw [hs]
    | false =>
      rw [List.find?_cons_of_neg (by rw [hb]; decide), List.find?_cons_of_neg (by rw [hb]; decide)]
      exact ih fun q hq => h q (List.mem_cons_of_mem _ hq)
theorem tabS_small (A : Ad) : ∀ c : Fin 128, ((tabS A).find? fun p => p.1 == (⟨#[c.1]⟩ : Str)).map (fun p => p.2) = sortOf c.1 := by
  show ∀ c : Fin 128, (((kv_SORTS A).map fun p => (p.1, match p.2 with | .str s => s | _ => ("" : Str))).find? fun p => p.1 == (⟨#[c.1]⟩ : Str)).map (fun p => p.2) = sortOf c.1
  unfold kv_SORTS
  decide +kernel
theorem tabS_keys (A : Ad) : ∀ p ∈ tabS A, p.1.cps.toList.length = 1 ∧ ∀ c ∈ p.1.cps.toList, c < 128 := by
  unfold tabS kv_SORTS
  decide +kernel
theorem sort_at (A : Ad) (c : Nat) : tabGet (kv_SORTS A) ⟨#[c]⟩ = (sortOf c).map V.str := by
  rw [tabS_get]
  by_cases h : c < 128
  · have e := tabS_small A ⟨c, h⟩
    rw [← e, Option.map_map]
    rfl
  · have e : (tabS A).find? (fun p => p.1 == (⟨#[c]⟩ : Str)) = none := List.find?_eq_none.mpr fun p hp => by
      intro q
      have q : p.1 = ⟨#[c]⟩ := eq_of_beq q
      have := (tabS_keys A p hp).2 c (by rw [q]; exact List.mem_singleton.mpr rfl)
      omega
    rw [e]
    unfold sortOf
    rw [inR_f (.inr (by omega)), inR_f (.inr (by omega)), inR_f (.inr (by omega)), if_neg (by decide), if_neg (by decide), if_neg (by decide), if_neg (by omega), if_neg (by omega)]
    rfl
theorem sort_nil (A : Ad) : tabGet (kv_SORTS A) ⟨#[]⟩ = none := by
  rw [tabS_get]
  have e : (tabS A).find? (fun p => p.1 == (⟨#[]⟩ : Str)) = none := List.find?_eq_none.mpr fun p hp => by
    intro q
    have q : p.1 = ⟨#[]⟩ := eq_of_beq q
    have := (tabS_keys A p hp).1
    rw [q] at this
    cases this
  rw [e] <;> rfl
theorem own_at (A : Ad) (z : Str) : (tabGet (kv_OWN_WORDS A) z).isSome = inV (.str z) own := by
  have e : ∀ l : List Str, (tabGet (l.map fun s => (s, V.bl true)) z).isSome = inV (.str z) (l.map V.str) := fun l => by
    induction l with
    | nil => rfl
    | cons s r ih =>
      show _ = ((s == z) || inV (.str z) (r.map V.str))
      rw [← ih]
      unfold tabGet
      rw [List.map_cons]
      cases hb : s == z with
      | true => rw [List.find?_cons_of_pos (by exact hb)] <;> rfl
      | false => rw [List.find?_cons_of_neg (by exact fun q => by rw [hb] at q; cases q)] <;> rfl
  exact e ["fn", "let", "in", "rec", "match", "with", "fail", "num"]
end
section
variable {P : Program} {w : World} {K : PySem.W.Frag} {mg : Str → Option Value} {base : Heap} {A : Ad}
def spTok2 : Sp := fun vs H Q _ => ∃ (z : Str) (b c : Nat) (st : Str), vs = [.str z, .int b, .str st] ∧ z.length ≤ 10000 ∧ z.cps.toList[b]? = some c ∧ sortOf c = some st ∧ ∀ H', Same H H' → Q (.int ((tokEnd z b : Nat) : Int)) H'
/-- the sort of the sign at a place -/
def sortAt (z : Str) (i : Nat) : Option Str := match z.cps.toList[i]? with | some c => sortOf c | none => none
theorem sort_cut (A : Ad) (z : Str) (i : Nat) : tabGet (kv_SORTS A) (cutS z (some (i : Int)) (some ((i : Int) + 1))) = (sortAt z i).map V.str := by
  unfold sortAt
  cases hd : z.cps.toList[i]? with
  | none =>
    rw [show cutS z (some (i : Int)) (some ((i : Int) + 1)) = (⟨#[]⟩ : Str) from str_ext (by rw [cut1_list, hd]), sort_nil] <;> rfl
  | some d => rw [(cut1_is z i d).mpr hd, sort_at]
theorem sortAt_none {z : Str} {i : Nat} (h : (sortAt z i).isSome = false) {lo hi : Nat} (hr : (lo, hi) = (97, 122) ∨ (lo, hi) = (65, 90) ∨ (lo, hi) = (48, 57)) (m : Nat) : runLen (inR lo hi) (z.cps.toList.drop i) m = 0 := by
  unfold sortAt at h
  cases hd : z.cps.toList[i]? with
  | none => exact runLen_end (List.getElem?_eq_none_iff.mp hd)
  | some d =>
    rw [hd] at h
    refine runLen_stop hd ?_
    dsimp only at h
    unfold sortOf at h
    cases h1 : inR 97 122 d with
    | true =>
      rw [h1] at h
      cases h
    | false =>
      cases h2 : inR 65 90 d with
      | true =>
        rw [h1, h2] at h
        cases h
      | false =>
        cases h3 : inR 48 57 d with
        | true =>
          rw [h1, h2, h3] at h
          cases h
        | false =>
          rcases hr with e | e | e <;> (injection e with e1 e2; subst e1 e2; assumption)
theorem tok_word {z : Str} {b c : Nat} (hc : z.cps.toList[b]? = some c) (h : inR 97 122 c = true) : tokEnd z b = wordEnd z.cps.toList b := by
  obtain ⟨h1, h2⟩ := inR_t h
  unfold tokEnd
  rw [hc]
  dsimp only
  rw [if_neg (by unfold isQ; rw [decide_eq_false (show ¬ c = 39 by omega), decide_eq_false (show ¬ c = 36 by omega)]; decide), if_neg (by omega), if_neg (by rw [not_sg (by omega)]; decide)]
  rw [tag_none hc (inR_f (by omega)), num_none hc (inR_f (by omega))]
  have : b ≤ wordEnd z.cps.toList b := by unfold wordEnd; split <;> omega
  omega
theorem tok_tag {z : Str} {b c : Nat} (hc : z.cps.toList[b]? = some c) (h : inR 65 90 c = true) : tokEnd z b = tagEnd z.cps.toList b := by
  obtain ⟨h1, h2⟩ := inR_t h
  unfold tokEnd
  rw [hc]
  dsimp only
  rw [if_neg (by unfold isQ; rw [decide_eq_false (show ¬ c = 39 by omega), decide_eq_false (show ¬ c = 36 by omega)]; decide), if_neg (by omega), if_neg (by rw [not_sg (by omega)]; decide)]
  rw [word_none hc (inR_f (by omega)), num_none hc (inR_f (by omega))]
  have : b ≤ tagEnd z.cps.toList b := by rw [tag_some hc h]; omega
  omega
theorem tok_num {z : Str} {b c : Nat} (hc : z.cps.toList[b]? = some c) (h : inR 48 57 c = true) : tokEnd z b = numEnd z.cps.toList b := by
  obtain ⟨h1, h2⟩ := inR_t h
  unfold tokEnd
  rw [hc]
  dsimp only
  rw [if_neg (by unfold isQ; rw [decide_eq_false (show ¬ c = 39 by omega), decide_eq_false (show ¬ c = 36 by omega)]; decide), if_neg (by omega), if_neg (by rw [not_sg (by omega)]; decide)]
  rw [word_none hc (inR_f (by omega)), tag_none hc (inR_f (by omega))]
  have : b ≤ numEnd z.cps.toList b := by unfold numEnd; split <;> omega
  omega
theorem tok_q {z : Str} {b c : Nat} (hc : z.cps.toList[b]? = some c) (h : isQ c = true) : tokEnd z b = (if wordEnd z.cps.toList (b + 1) = b + 1 ∨ inV (.str (cutS z (some ((b + 1 : Nat) : Int)) (some ((wordEnd z.cps.toList (b + 1) : Nat) : Int)))) own = true then b else wordEnd z.cps.toList (b + 1)) := by
  unfold tokEnd
  rw [hc]
  dsimp only
  rw [if_pos h]
theorem one_word {z : Str} {b c : Nat} (hc : z.cps.toList[b]? = some c) (h : inR 97 122 c = true) (hn : (sortAt z (b + 1)).isSome = false) : wordEnd z.cps.toList b = b + 1 := by
  unfold wordEnd
  have e := runLen_step hc h (show 0 < 6 by decide)
  rw [sortAt_none hn (.inl rfl)] at e
  rw [e]
  split
  · rfl
  · rw [sortAt_none hn (.inr (.inr rfl))]
theorem one_tag {z : Str} {b c : Nat} (hc : z.cps.toList[b]? = some c) (h : inR 65 90 c = true) (hn : (sortAt z (b + 1)).isSome = false) : tagEnd z.cps.toList b = b + 1 := by
  rw [tag_some hc h, sortAt_none hn (.inl rfl)]
theorem one_num {z : Str} {b c : Nat} (hc : z.cps.toList[b]? = some c) (h : inR 48 57 c = true) (hn : (sortAt z (b + 1)).isSome = false) : numEnd z.cps.toList b = b + 1 := by
  unfold numEnd
  split
  · rfl
  · have hl : 0 < z.cps.toList.length := by
      obtain ⟨q, _⟩ := List.getElem?_eq_some_iff.mp hc
      omega
    rw [runLen_step hc h hl, sortAt_none hn (.inr (.inr rfl))]
theorem sort_cases {c : Nat} {st : Str} (h : sortOf c = some st) : (st = "word" ∧ inR 97 122 c = true) ∨ (st = "tag" ∧ inR 65 90 c = true) ∨ (st = "number" ∧ inR 48 57 c = true) ∨ ((st = "'" ∨ st = "$") ∧ isQ c = true) := by
  unfold sortOf at h
  split at h
  · exact .inl ⟨(Option.some.inj h).symm, by assumption⟩
  · split at h
    · exact .inr (.inl ⟨(Option.some.inj h).symm, by assumption⟩)
    · split at h
      · exact .inr (.inr (.inl ⟨(Option.some.inj h).symm, by assumption⟩))
      · split at h
        · rename_i e
          exact .inr (.inr (.inr ⟨.inl (Option.some.inj h).symm, by rw [e]; decide⟩))
        · split at h
          · rename_i e
            exact .inr (.inr (.inr ⟨.inr (Option.some.inj h).symm, by rw [e]; decide⟩))
          · cases h
theorem es_next (A : Ad) (z : Str) (b : Nat) : (!(tabGet (kv_SORTS A) (cutS z (some ((b : Int) + 1)) (some ((b : Int) + 2)))).isSome) = !(sortAt z (b + 1)).isSome := by
  have e := sort_cut A z (b + 1)
  rw [show (((b + 1 : Nat) : Int) + 1) = (b : Int) + 2 by omega, show ((b + 1 : Nat) : Int) = (b : Int) + 1 by omega] at e
  rw [e]
  cases sortAt z (b + 1) <;> rfl
theorem ok_token_end (T : Top w K mg A) : FnOk P w K mg base CX0 3 A.a_token_end A.fd_token_end ["text", "begin", "sort"] spTok2 := by
  refine T.F_token_end.ok sc_token_end (fun vs H Q E h => ?_) (fun cdv A outer s H vs Q E hr h => ?_)
  · obtain ⟨z, b, c, st, rfl, _⟩ := h
    rfl
  · obtain ⟨z, b, c, st, rfl, hz, hc, hs, k⟩ := h
    refine ⟨_, (pss_cons (ps_if (PW.pt (pw_and (pt_cmpR (op_notInT (K := K) (w := w) rfl rfl) (pe_slice (U.uSl (K := K) rfl) (pv 0) (po_some (pe_op U.uAdd (pv 1) pe_int)) (po_some (pe_op U.uAdd (pv 1) pe_int))) (U.pe_con_ T.m_SORTS) rfl) (pw_and1 (pt_cmpR (U.uNotIn (K := K) rfl) (pv 2) (pe_tup (pa_cons pe_str (pa_cons pe_str pa_nil))) rfl)))) (pss_one (ps_ret (pe_op U.uAdd (pv 1) pe_int))) pss_nil)
    (pss_cons (ps_if (pt_cmpR (U.uEq (K := K) rfl hr.units) (pv 2) pe_str (nomark _)) (pss_one (ps_ret (pe_call (ok_word_end T) (hr.mono (by decide)) rfl T.m_word_end T.F_word_end.kp T.b_word_end .nil pass0 (pa_cons (pv 0) (pa_cons (pv 1) pa_nil))))) pss_nil)
    (pss_cons (ps_if (pt_cmpR (U.uEq (K := K) rfl hr.units) (pv 2) pe_str (nomark _)) (pss_one (ps_ret (pe_call (ok_tag_end T) (hr.mono (by decide)) rfl T.m_tag_end T.F_tag_end.kp T.b_tag_end .nil pass0 (pa_cons (pv 0) (pa_cons (pv 1) pa_nil))))) pss_nil)
    (pss_cons (ps_if (pt_cmpR (U.uEq (K := K) rfl hr.units) (pv 2) pe_str (nomark _)) (pss_one (ps_ret (pe_call (ok_number_end T) (hr.mono (by decide)) rfl T.m_number_end T.F_number_end.kp T.b_number_end .nil pass0 (pa_cons (pv 0) (pa_cons (pv 1) pa_nil))))) pss_nil)
    (pss_cons (ps_set (i := 3) sc_token_end.nd rfl (Or.inl rfl) (pe_call (ok_word_end T) (hr.mono (by decide)) rfl T.m_word_end T.F_word_end.kp T.b_word_end .nil pass0 (pa_cons (pv 0) (pa_cons (pe_op U.uAdd (pv 1) pe_int) pa_nil))))
    (pss_cons (ps_if (PW.pt (pw_or (pt_cmpR (U.uEq (K := K) rfl hr.units) (pv 3) (pe_op U.uAdd (pv 1) pe_int) (nomark _)) (pw_or1 (pt_cmpR (op_inT (K := K) (w := w) rfl rfl) (pe_slice (U.uSl (K := K) rfl) (pv 0) (po_some (pe_op U.uAdd (pv 1) pe_int)) (po_some (pv 3))) (U.pe_con_ T.m_OWN_WORDS) rfl)))) (pss_one (ps_ret (pv 1))) pss_nil)
    (pss_one (ps_ret (pv 3))))))))), ?_⟩
    have ez := U.zlen z
    walk_at "w"
    refine ⟨_, _, _, rfl, rfl, T.q_SORTS, ?_⟩
    refine ⟨_, rfl, ?_⟩
    refine U.ifB _ (es_next _ z b) ?_
    rcases sort_cases hs with ⟨rfl, h1⟩ | ⟨rfl, h1⟩ | ⟨rfl, h1⟩ | ⟨h0, h1⟩
    · cases hn : (sortAt z (b + 1)).isSome with
      | false =>
        refine iteT ?_
        walk_at "w"
        intro p np
        walk_at "w"
        walk_at "w"
        have s1 := U.same_new (o := HO.tup [V.str (Str.ofString "'"), V.str (Str.ofString "$")]) np
        have k := k _ s1
        rw [tok_word hc h1, one_word hc h1 hn] at k
        exact k
      | true =>
        refine iteF ?_
        walk_at "w"
        intro H1 s1
        walk_at "w"
        have k := k _ s1
        rw [tok_word hc h1] at k
        exact k
    · cases hn : (sortAt z (b + 1)).isSome with
      | false =>
        refine iteT ?_
        walk_at "w"
        intro p np
        walk_at "w"
        walk_at "w"
        have s1 := U.same_new (o := HO.tup [V.str (Str.ofString "'"), V.str (Str.ofString "$")]) np
        have k := k _ s1
        rw [tok_tag hc h1, one_tag hc h1 hn] at k
        exact k
      | true =>
        refine iteF ?_
        walk_at "w"
        intro H1 s1
        walk_at "w"
        have k := k _ s1
        rw [tok_tag hc h1] at k
        exact k
    · cases hn : (sortAt z (b + 1)).isSome with
      | false =>
        refine iteT ?_
        walk_at "w"
        intro p np
        walk_at "w"
        walk_at "w"
        have s1 := U.same_new (o := HO.tup [V.str (Str.ofString "'"), V.str (Str.ofString "$")]) np
        have k := k _ s1
        rw [tok_num hc h1, one_num hc h1 hn] at k
        exact k
      | true =>
        refine iteF ?_
        walk_at "w"
        intro H1 s1
        walk_at "w"
        have k := k _ s1
        rw [tok_num hc h1] at k
        exact k
    · rw [tok_q hc h1] at k
      rcases h0 with rfl | rfl
      · cases hn : (sortAt z (b + 1)).isSome with
        | false =>
          refine iteT ?_
          walk_at "w"
          intro p np
          walk_at "w"
          walk_at "w"
          have s1 := U.same_new (o := HO.tup [V.str (Str.ofString "'"), V.str (Str.ofString "$")]) np
          intro H1 s2
          walk_at "w"
          have h2 : ∀ q : ((wordEnd z.cps.toList (b + 1) : Nat) : Int) = (b : Int) + 1, wordEnd z.cps.toList (b + 1) = b + 1 := fun q => by omega
          refine U.ifDi (fun h3 => ?_) (fun h3 => ?_)
          · walk_at "w"
            rw [if_pos (.inl (h2 h3))] at k
            exact k _ (s1.trans s2)
          · walk_at "w"
            refine ⟨_, _, _, rfl, rfl, T.q_OWN_WORDS, ?_⟩
            walk_at "w"
            refine U.ifB _ (own_at _ _) (U.ifBl (fun h4 => ?_) (fun h4 => ?_))
            · walk_at "w"
              rw [if_pos (.inr h4)] at k
              exact k _ (s1.trans s2)
            · walk_at "w"
              rw [if_neg (fun q => q.elim (fun q => h3 (by rw [q] <;> rfl)) fun q => Bool.false_ne_true (h4.symm.trans q))] at k
              exact k _ (s1.trans s2)
        | true =>
          refine iteF ?_
          walk_at "w"
          intro H1 s2
          walk_at "w"
          have h2 : ∀ q : ((wordEnd z.cps.toList (b + 1) : Nat) : Int) = (b : Int) + 1, wordEnd z.cps.toList (b + 1) = b + 1 := fun q => by omega
          refine U.ifDi (fun h3 => ?_) (fun h3 => ?_)
          · walk_at "w"
            rw [if_pos (.inl (h2 h3))] at k
            exact k _ s2
          · walk_at "w"
            refine ⟨_, _, _, rfl, rfl, T.q_OWN_WORDS, ?_⟩
            walk_at "w"
            refine U.ifB _ (own_at _ _) (U.ifBl (fun h4 => ?_) (fun h4 => ?_))
            · walk_at "w"
              rw [if_pos (.inr h4)] at k
              exact k _ s2
            · walk_at "w"
              rw [if_neg (fun q => q.elim (fun q => h3 (by rw [q] <;> rfl)) fun q => Bool.false_ne_true (h4.symm.trans q))] at k
              exact k _ s2
      · cases hn : (sortAt z (b + 1)).isSome with
        | false =>
          refine iteT ?_
          walk_at "w"
          intro p np
          walk_at "w"
          walk_at "w"
          have s1 := U.same_new (o := HO.tup [V.str (Str.ofString "'"), V.str (Str.ofString "$")]) np
          intro H1 s2
          walk_at "w"
          have h2 : ∀ q : ((wordEnd z.cps.toList (b + 1) : Nat) : Int) = (b : Int) + 1, wordEnd z.cps.toList (b + 1) = b + 1 := fun q => by omega
          refine U.ifDi (fun h3 => ?_) (fun h3 => ?_)
          · walk_at "w"
            rw [if_pos (.inl (h2 h3))] at k
            exact k _ (s1.trans s2)
          · walk_at "w"
            refine ⟨_, _, _, rfl, rfl, T.q_OWN_WORDS, ?_⟩
            walk_at "w"
            refine U.ifB _ (own_at _ _) (U.ifBl (fun h4 => ?_) (fun h4 => ?_))
            · walk_at "w"
              rw [if_pos (.inr h4)] at k
              exact k _ (s1.trans s2)
            · walk_at "w"
              rw [if_neg (fun q => q.elim (fun q => h3 (by rw [q] <;> rfl)) fun q => Bool.false_ne_true (h4.symm.trans q))] at k
              exact k _ (s1.trans s2)
        | true =>
          refine iteF ?_
          walk_at "w"
          intro H1 s2
          walk_at "w"
          have h2 : ∀ q : ((wordEnd z.cps.toList (b + 1) : Nat) : Int) = (b : Int) + 1, wordEnd z.cps.toList (b + 1) = b + 1 := fun q => by omega
          refine U.ifDi (fun h3 => ?_) (fun h3 => ?_)
          · walk_at "w"
            rw [if_pos (.inl (h2 h3))] at k
            exact k _ s2
          · walk_at "w"
            refine ⟨_, _, _, rfl, rfl, T.q_OWN_WORDS, ?_⟩
            walk_at "w"
            refine U.ifB _ (own_at _ _) (U.ifBl (fun h4 => ?_) (fun h4 => ?_))
            · walk_at "w"
              rw [if_pos (.inr h4)] at k
              exact k _ s2
            · walk_at "w"
              rw [if_neg (fun q => q.elim (fun q => h3 (by rw [q] <;> rfl)) fun q => Bool.false_ne_true (h4.symm.trans q))] at k
              exact k _ s2
end
section
variable {P : Program} {w : World} {K : PySem.W.Frag} {mg : Str → Option Value} {base : Heap} {A : Ad}
def isLt (c : Nat) : Bool := !isSg c && !isQ c
/-- the tokens from a place on, as begins and ends, and the index of a wrong sign -/
def lexF (z : Str) : Nat → Nat → Bool → List (Nat × Nat) × Option Nat
  | 0, _, _ => ([], none)
  | f + 1, i, cl => match z.cps.toList[i]? with
    | none => ([], none)
    | some c => if c = 32 then lexF z f (i + 1) false
      else if tokEnd z i = i ∨ (cl && isLt c) = true then ([], some i)
      else ((i, tokEnd z i) :: (lexF z f (tokEnd z i) (isLt c || isQ c)).1, (lexF z f (tokEnd z i) (isLt c || isQ c)).2)
def lex (z : Str) : List (Nat × Nat) × Option Nat := lexF z (z.length + 1) 0 false
def tokIs (z : Str) (H : Hp) (t : Addr) (s : Nat × Nat) : Prop := H t = some (.tup [.str (cutS z (some (s.1 : Int)) (some (s.2 : Int))), .int (s.1 : Int)])
def Toks (z : Str) (H : Hp) (p : Addr) (acc : List (Nat × Nat)) : Prop := ∃ ts : List Addr, H p = some (.lst (ts.map V.ref)) ∧ Paired (tokIs z H) ts acc ∧ ts.length = acc.length
theorem Paired.mapF {α β : Type} {F G : α → β → Prop} {l₁ : List α} {l₂ : List β} (h : Paired F l₁ l₂) (f : ∀ a b, F a b → G a b) : Paired G l₁ l₂ := by
  induction h with
  | nil => exact .nil
  | cons r _ ih => exact .cons (f _ _ r) ih
theorem Paired.snoc {α β : Type} {F : α → β → Prop} {l₁ : List α} {l₂ : List β} {a : α} {b : β} (h : Paired F l₁ l₂) (r : F a b) : Paired F (l₁ ++ [a]) (l₂ ++ [b]) := by
  induction h with
  | nil => exact .cons r .nil
  | cons q _ ih => exact .cons q ih
theorem Toks.same {z : Str} {H H' : Hp} {p : Addr} {acc : List (Nat × Nat)} (t : Toks z H p acc) (s : Same H H') : Toks z H' p acc := by
  obtain ⟨ts, h1, h2, h3⟩ := t
  exact ⟨ts, s _ _ h1, Paired.mapF h2 fun a b q => s _ _ q, h3⟩
theorem Toks.push {z : Str} {H : Hp} {p t : Addr} {ts : List Addr} {acc : List (Nat × Nat)} {s : Nat × Nat} (h1 : H p = some (.lst (ts.map V.ref))) (h2 : Paired (tokIs z H) ts acc) (h3 : ts.length = acc.length) (ht : tokIs z H t s) :
    Toks z (upd H p (.lst (ts.map V.ref ++ [.ref t]))) p (acc ++ [s]) := by
  have ne : ∀ {a : Addr} {s : Nat × Nat}, tokIs z H a s → a ≠ p := fun {a s} q => ne_of q h1 (by intro e; cases e)
  refine ⟨ts ++ [t], by rw [upd_same, List.map_append] <;> rfl, Paired.snoc (Paired.mapF h2 fun a b q => ?_) ?_, by rw [List.length_append, List.length_append, h3] <;> rfl⟩
  · show upd H p _ a = _
    rw [upd_ne (ne q)]
    exact q
  · show upd H p _ t = _
    rw [upd_ne (ne ht)]
    exact ht
def wrongV : Option Nat → V
  | none => .non
  | some n => .int (n : Int)
def spCut : Sp := fun vs H Q _ => ∃ (z : Str), vs = [.str z] ∧ z.length ≤ 10000 ∧ ∀ (q p : Addr) (H' : Hp), Same H H' → H p = none → (∃ r, H' q = some (.tup [.ref p, .ref r, wrongV (lex z).2])) → Toks z H' p (lex z).1 → Q (.ref q) H'
theorem l_mi : (Str.ofString "-") = (⟨#[45]⟩ : Str) := by decide +kernel
theorem l_gt : (Str.ofString ">") = (⟨#[62]⟩ : Str) := by decide +kernel
theorem l_sp : (Str.ofString " ") = (⟨#[32]⟩ : Str) := by decide +kernel
theorem s1_inj {a b : Nat} : (⟨#[a]⟩ : Str) = ⟨#[b]⟩ ↔ a = b := by
  constructor
  · intro e
    have e2 : (⟨#[a]⟩ : Str).cps.toList = (⟨#[b]⟩ : Str).cps.toList := by rw [e]
    exact List.singleton_inj.mp e2
  · intro e
    rw [e]
theorem wordEnd_ge (l : List Nat) (b : Nat) : b ≤ wordEnd l b := by
  unfold wordEnd
  split <;> omega
theorem tokEnd_ge (z : Str) (b : Nat) : b ≤ tokEnd z b := by
  unfold tokEnd
  split
  · exact Nat.le_refl _
  · have h1 := wordEnd_ge z.cps.toList (b + 1)
    have h2 := wordEnd_ge z.cps.toList b
    split
    · split <;> omega
    · split
      · omega
      · split
        · omega
        · exact Nat.le_trans h2 (Nat.le_trans (Nat.le_max_left _ _) (Nat.le_max_left _ _))
theorem cut_head {z : Str} {i e c : Nat} (hc : z.cps.toList[i]? = some c) (he : i < e) : (cutS z (some (i : Int)) (some (e : Int))).cps.toList[0]? = some c := by
  rw [cut_list]
  obtain ⟨hi, hie⟩ := List.getElem?_eq_some_iff.mp hc
  obtain ⟨n, hn⟩ : ∃ n, e - i = n + 1 := ⟨e - i - 1, by omega⟩
  rw [hn, List.drop_eq_getElem_cons hi, List.take_succ_cons, hie]
  rfl
theorem lexF_sp {z : Str} {m i c : Nat} {cl : Bool} (hc : z.cps.toList[i]? = some c) (h : c = 32) : lexF z (m + 1) i cl = lexF z m (i + 1) false := by
  conv => lhs; unfold lexF
  rw [hc]
  dsimp only
  rw [if_pos h]
theorem lexF_bad {z : Str} {m i c : Nat} {cl : Bool} (hc : z.cps.toList[i]? = some c) (h : ¬ c = 32) (hb : tokEnd z i = i ∨ (cl && isLt c) = true) : lexF z (m + 1) i cl = ([], some i) := by
  conv => lhs; unfold lexF
  rw [hc]
  dsimp only
  rw [if_neg h, if_pos hb]
theorem lexF_go {z : Str} {m i c : Nat} {cl : Bool} (hc : z.cps.toList[i]? = some c) (h : ¬ c = 32) (hb : ¬ (tokEnd z i = i ∨ (cl && isLt c) = true)) :
    lexF z (m + 1) i cl = ((i, tokEnd z i) :: (lexF z m (tokEnd z i) (isLt c || isQ c)).1, (lexF z m (tokEnd z i) (isLt c || isQ c)).2) := by
  conv => lhs; unfold lexF
  rw [hc]
  dsimp only
  rw [if_neg h, if_neg hb]
theorem lexF_end {z : Str} {m i : Nat} {cl : Bool} (h : z.length ≤ i) : lexF z m i cl = ([], none) := by
  cases m with
  | zero => rfl
  | succ m =>
    conv => lhs; unfold lexF
    rw [List.getElem?_eq_none (by rw [← U.zlen]; exact h)]
theorem sort_is {c : Nat} : (sortOf c).isSome = true ↔ (isLt c = true ∧ (inR 97 122 c || inR 65 90 c || inR 48 57 c) = true) ∨ isQ c = true := by
  constructor
  · intro h
    cases e : sortOf c with
    | none =>
      rw [e] at h
      cases h
    | some st =>
      have nq : ∀ {a b : Nat}, inR a b c = true → (a = 97 ∧ b = 122) ∨ (a = 65 ∧ b = 90) ∨ (a = 48 ∧ b = 57) → isLt c = true := fun {a b} h q => by
        obtain ⟨h1, h2⟩ := inR_t h
        unfold isLt isQ
        rw [not_sg (by omega), decide_eq_false (show ¬ c = 39 by omega), decide_eq_false (show ¬ c = 36 by omega)]
        rfl
      rcases sort_cases e with ⟨_, h1⟩ | ⟨_, h1⟩ | ⟨_, h1⟩ | ⟨_, h1⟩
      · exact .inl ⟨nq h1 (.inl ⟨rfl, rfl⟩), by rw [h1] <;> rfl⟩
      · exact .inl ⟨nq h1 (.inr (.inl ⟨rfl, rfl⟩)), by rw [h1]; cases inR 97 122 c <;> rfl⟩
      · exact .inl ⟨nq h1 (.inr (.inr ⟨rfl, rfl⟩)), by rw [h1]; cases inR 97 122 c <;> cases inR 65 90 c <;> rfl⟩
      · exact .inr h1
  · rintro (⟨_, h⟩ | h)
    · unfold sortOf
      cases h1 : inR 97 122 c with
      | true => rfl
      | false =>
        cases h2 : inR 65 90 c with
        | true => rfl
        | false =>
          rw [h1, h2] at h
          have h3 : inR 48 57 c = true := h
          rw [h3] <;> rfl
    · unfold sortOf
      unfold isQ at h
      rw [Bool.or_eq_true] at h
      split
      · rfl
      · split
        · rfl
        · split
          · rfl
          · split
            · rfl
            · rename_i n
              rcases h with h | h
              · exact absurd (of_decide_eq_true h) n
              · rw [if_pos (of_decide_eq_true h)] <;> rfl
/-- a sign of no token -/
theorem tok_odd {z : Str} {b c : Nat} (hc : z.cps.toList[b]? = some c) (h : sortOf c = none) (hs : isSg c = false) : tokEnd z b = b := by
  have nq : isQ c = false := by
    cases q : isQ c with
    | false => rfl
    | true =>
      have := sort_is.mpr (.inr q)
      rw [h] at this
      cases this
  have nr : ∀ {a b : Nat}, (a = 97 ∧ b = 122) ∨ (a = 65 ∧ b = 90) ∨ (a = 48 ∧ b = 57) → inR a b c = false := fun {a b} q => by
    unfold sortOf at h
    cases h1 : inR 97 122 c with
    | true =>
      rw [h1] at h
      cases h
    | false =>
      cases h2 : inR 65 90 c with
      | true =>
        rw [h1, h2] at h
        cases h
      | false =>
        cases h3 : inR 48 57 c with
        | true =>
          rw [h1, h2, h3] at h
          cases h
        | false =>
          rcases q with ⟨rfl, rfl⟩ | ⟨rfl, rfl⟩ | ⟨rfl, rfl⟩ <;> assumption
  unfold tokEnd
  rw [hc]
  dsimp only
  rw [if_neg (by rw [nq]; decide), if_neg (fun q => by rw [q.1] at hs; revert hs; decide +kernel), if_neg (by rw [hs]; decide)]
  rw [word_none hc (nr (.inl ⟨rfl, rfl⟩)), tag_none hc (nr (.inr (.inl ⟨rfl, rfl⟩))), num_none hc (nr (.inr (.inr ⟨rfl, rfl⟩)))]
  omega
theorem tok_sg {z : Str} {b c : Nat} (hc : z.cps.toList[b]? = some c) (h : sortOf c = none) (hs : isSg c = true) : tokEnd z b = if c = 45 ∧ z.cps.toList[b + 1]? = some 62 then b + 2 else b + 1 := by
  have nq : isQ c = false := by
    cases q : isQ c with
    | false => rfl
    | true =>
      have := sort_is.mpr (.inr q)
      rw [h] at this
      cases this
  unfold tokEnd
  rw [hc]
  dsimp only
  rw [if_neg (by rw [nq]; decide), if_pos hs]
theorem cut1_is' (z : Str) (i c : Nat) : cutS z (some ((i : Int) + 1)) (some ((i : Int) + 2)) = (⟨#[c]⟩ : Str) ↔ z.cps.toList[i + 1]? = some c := by
  have e := cut1_is z (i + 1) c
  rw [show (((i + 1 : Nat) : Int) + 1) = (i : Int) + 2 by omega, show ((i + 1 : Nat) : Int) = (i : Int) + 1 by omega] at e
  exact e
theorem sort_lt {c : Nat} {st : Str} (h : sortOf c = some st) : (!inV (V.str st) [V.str (Str.ofString "'"), V.str (Str.ofString "$")]) = isLt c := by
  have nq : ∀ {a b : Nat}, inR a b c = true → (a = 97 ∧ b = 122) ∨ (a = 65 ∧ b = 90) ∨ (a = 48 ∧ b = 57) → isLt c = true := fun {a b} h q => by
    obtain ⟨h1, h2⟩ := inR_t h
    unfold isLt isQ
    rw [not_sg (by omega), decide_eq_false (show ¬ c = 39 by omega), decide_eq_false (show ¬ c = 36 by omega)]
    rfl
  rcases sort_cases h with ⟨rfl, h1⟩ | ⟨rfl, h1⟩ | ⟨rfl, h1⟩ | ⟨h0, h1⟩
  · rw [nq h1 (.inl ⟨rfl, rfl⟩)]
    decide +kernel
  · rw [nq h1 (.inr (.inl ⟨rfl, rfl⟩))]
    decide +kernel
  · rw [nq h1 (.inr (.inr ⟨rfl, rfl⟩))]
    decide +kernel
  · unfold isLt
    rw [h1]
    rcases h0 with rfl | rfl
    · rw [show (!inV (V.str (Str.ofString "'")) [V.str (Str.ofString "'"), V.str (Str.ofString "$")]) = false by decide +kernel]
      cases isSg c <;> rfl
    · rw [show (!inV (V.str (Str.ofString "$")) [V.str (Str.ofString "'"), V.str (Str.ofString "$")]) = false by decide +kernel]
      cases isSg c <;> rfl
theorem sort_cl {c : Nat} {st : Str} (h : sortOf c = some st) : (isLt c || isQ c) = true := by
  rcases sort_is.mp (show (sortOf c).isSome = true by rw [h] <;> rfl) with ⟨q, _⟩ | q
  · rw [q] <;> rfl
  · rw [q, Bool.or_true]
theorem sg_lt {c : Nat} (h : isSg c = true) : isLt c = false := by
  unfold isLt
  rw [h] <;> rfl
theorem sort_sg {c : Nat} (h : isSg c = true) (hs : sortOf c = none) : (isLt c || isQ c) = false := by
  unfold isLt
  rw [h]
  cases q : isQ c with
  | false => rfl
  | true =>
    have := sort_is.mpr (.inr q)
    rw [hs] at this
    cases this
/-- the two lists of the cutter -/
def CutI (z : Str) (H H' : Hp) (p r : Addr) (acc : List (Nat × Nat)) (i : Nat) : Prop := Same H H' ∧ Toks z H' p acc ∧ ∃ ss : List V, H' r = some (.lst ss) ∧ ss.length ≤ i
theorem CutI.keep {z : Str} {H H1 H2 : Hp} {p r : Addr} {acc : List (Nat × Nat)} {i : Nat} (c : CutI z H H1 p r acc i) (s : Same H1 H2) : CutI z H H2 p r acc i := by
  obtain ⟨a, b, ss, e, l⟩ := c
  exact ⟨a.trans s, b.same s, ss, s _ _ e, l⟩
theorem Toks.but {z : Str} {H H' : Hp} {p r : Addr} {acc : List (Nat × Nat)} (t : Toks z H p acc) (ne : p ≠ r) {ss : List V} (hr : H r = some (.lst ss)) (s : U.SameBut r H H') : Toks z H' p acc := by
  obtain ⟨ts, h1, h2, h3⟩ := t
  exact ⟨ts, s _ _ ne h1, Paired.mapF h2 fun a b q => s _ _ (ne_of q hr (by intro e; cases e)) q, h3⟩
theorem CutI.push {z : Str} {H H1 : Hp} {p r : Addr} {ts : List Addr} {ss : List V} {acc : List (Nat × Nat)} {i i2 : Nat} {t : Addr} {o : HO} {s : Nat × Nat} {v : V} (np : H p = none) (nr : H r = none) (pr : p ≠ r) (sH : Same H H1) (q1 : H1 p = some (.lst (ts.map V.ref))) (q2 : Paired (tokIs z H1) ts acc) (q3 : ts.length = acc.length) (hr : H1 r = some (.lst ss)) (hl : ss.length ≤ i)
    (nt : H1 t = none) (ho : tokIs z (upd H1 t o) t s) (h2 : i + 1 ≤ i2) : CutI z H (upd (upd (upd H1 t o) p (.lst (ts.map V.ref ++ [.ref t]))) r (.lst (ss ++ [v]))) p r (acc ++ [s]) i2 := by
  have st := U.same_new (o := o) nt
  have tk3 := Toks.push (z := z) (st _ _ q1) (Paired.mapF q2 fun a b q => st _ _ q) q3 (s := s) ho
  have hr3 : (upd (upd H1 t o) p (.lst (ts.map V.ref ++ [.ref t]))) r = some (.lst ss) := by
    rw [upd_ne (Ne.symm pr)]
    exact st _ _ hr
  refine ⟨fun c u e => ?_, tk3.but pr hr3 ((U.SameBut.refl _ _).upd), _, upd_same, ?_⟩
  · rw [upd_ne (fun z => by rw [z, nr] at e; cases e), upd_ne (fun z => by rw [z, np] at e; cases e)]
    exact st _ _ (sH _ _ e)
  · rw [List.length_append, List.length_singleton]
    omega
theorem ok_cut (T : Top w K mg A) : FnOk P w K mg base CX0 4 A.a_cut A.fd_cut ["text"] spCut := by
  refine T.F_cut.ok sc_cut (fun vs H Q E h => ?_) (fun cdv A outer s H vs Q E hr h => ?_)
  · obtain ⟨z, rfl, _⟩ := h
    rfl
  · obtain ⟨z, rfl, hz, k⟩ := h
    refine ⟨_, (pss_cons (ps_set (i := 1) sc_cut.nd rfl (Or.inl rfl) (pe_lst pa_nil))
    (pss_cons (ps_set (i := 2) sc_cut.nd rfl (Or.inl rfl) (pe_lst pa_nil))
    (pss_cons (ps_set (i := 3) sc_cut.nd rfl (Or.inl rfl) pe_bl)
    (pss_cons (ps_set (i := 4) sc_cut.nd rfl (Or.inl rfl) pe_int)
    (pss_cons (ps_while PassesOwn.never (pt_cmpR U.uLt (pv 4) (pe_callB (U.uLen (K := K) rfl) (by rfl) T.n_len (by decide +kernel) (pa_cons (pv 0) pa_nil)) (nomark _)) (pss_cons (ps_set (i := 5) sc_cut.nd rfl (Or.inl rfl) (pe_ix (U.uIx (K := K) rfl) (pv 0) (pv 4) (fun _ _ => rfl)))
    (pss_one (ps_if (pt_cmpR (U.uEq (K := K) rfl hr.units) (pv 5) pe_str (nomark _)) (pss_cons (ps_set (i := 3) sc_cut.nd rfl (Or.inl rfl) pe_bl)
    (pss_one (ps_aug (i := 4) sc_cut.nd rfl (Or.inl rfl) pe_int ip_add))) (pss_one (ps_if (pt_cmpR (op_inT (K := K) (w := w) rfl rfl) (pv 5) (U.pe_con_ T.m_SORTS) rfl) (pss_cons (ps_set (i := 6) sc_cut.nd rfl (Or.inl rfl) (pe_ix (ix_tab (K := K) (w := w) rfl rfl) (U.pe_con_ T.m_SORTS) (pv 5) (fun _ _ => rfl)))
    (pss_cons (ps_set (i := 7) sc_cut.nd rfl (Or.inl rfl) (pe_call (ok_token_end T) (hr.mono (by decide)) rfl T.m_token_end T.F_token_end.kp T.b_token_end .nil pass0 (pa_cons (pv 0) (pa_cons (pv 4) (pa_cons (pv 6) pa_nil)))))
    (pss_cons (ps_if (PW.pt (pw_or (pt_cmpR (U.uEq (K := K) rfl hr.units) (pv 7) (pv 4) (nomark _)) (pw_or1 (PW.pt (pw_and (pt_val (pv 3)) (pw_and1 (pt_cmpR (U.uNotIn (K := K) rfl) (pv 6) (pe_tup (pa_cons pe_str (pa_cons pe_str pa_nil))) rfl))))))) (pss_one (ps_ret (pe_tup (pa_cons (pv 1) (pa_cons (pv 2) (pa_cons (pv 4) pa_nil)))))) pss_nil)
    (pss_cons (ps_set (i := 8) sc_cut.nd rfl (Or.inl rfl) (pe_slice (U.uSl (K := K) rfl) (pv 0) (po_some (pv 4)) (po_some (pv 7))))
    (pss_cons (ps_expr (pe_bm PySem.F.plainAttrs_list PySem.F.slot_list_append PySem.F.type_list_append mt_append (pv 1) (pa_cons (pe_tup (pa_cons (pv 8) (pa_cons (pv 4) pa_nil))) pa_nil)))
    (pss_cons (ps_expr (pe_bm PySem.F.plainAttrs_list PySem.F.slot_list_append PySem.F.type_list_append mt_append (pv 2) (pa_cons (pe_ifExp (pt_cmpR (op_inT (K := K) (w := w) rfl rfl) (pv 8) (U.pe_con_ T.m_OWN_WORDS) rfl) (pv 8) (pv 6)) pa_nil)))
    (pss_cons (ps_set (i := 3) sc_cut.nd rfl (Or.inl rfl) pe_bl)
    (pss_one (ps_set (i := 4) sc_cut.nd rfl (Or.inl rfl) (pv 7)))))))))) (pss_one (ps_if (pt_cmpR (U.uIn (K := K) rfl) (pv 5) (U.pe_con_ T.m_SIGNS) rfl) (pss_cons (ps_set (i := 8) sc_cut.nd rfl (Or.inl rfl) (pe_ifExp (PW.pt (pw_and (pt_cmpR (U.uEq (K := K) rfl hr.units) (pv 5) pe_str (nomark _)) (pw_and1 (pt_cmpR (U.uEq (K := K) rfl hr.units) (pe_slice (U.uSl (K := K) rfl) (pv 0) (po_some (pe_op U.uAdd (pv 4) pe_int)) (po_some (pe_op U.uAdd (pv 4) pe_int))) pe_str (nomark _))))) pe_str (pv 5)))
    (pss_cons (ps_expr (pe_bm PySem.F.plainAttrs_list PySem.F.slot_list_append PySem.F.type_list_append mt_append (pv 1) (pa_cons (pe_tup (pa_cons (pv 8) (pa_cons (pv 4) pa_nil))) pa_nil)))
    (pss_cons (ps_expr (pe_bm PySem.F.plainAttrs_list PySem.F.slot_list_append PySem.F.type_list_append mt_append (pv 2) (pa_cons (pv 8) pa_nil)))
    (pss_cons (ps_set (i := 3) sc_cut.nd rfl (Or.inl rfl) pe_bl)
    (pss_one (ps_aug (i := 4) sc_cut.nd rfl (Or.inl rfl) (pe_callB (U.uLen (K := K) rfl) (by rfl) T.n_len (by decide +kernel) (pa_cons (pv 8) pa_nil)) ip_add)))))) (pss_one (ps_ret (pe_tup (pa_cons (pv 1) (pa_cons (pv 2) (pa_cons (pv 4) pa_nil))))))))))))))
    (pss_one (ps_ret (pe_tup (pa_cons (pv 1) (pa_cons (pv 2) (pa_cons pe_non pa_nil))))))))))), ?_⟩
    have ez := U.zlen z
    walk_at "w"
    intro p np
    walk_at "w"
    intro r nr
    have pr : p ≠ r := fun e => by rw [← e, upd_same] at nr; cases nr
    have nr0 : H r = none := (U.same_new np).free nr
    walk_at "w"
    refine ⟨fun m σ H' => ∃ (i : Nat) (cl : Bool) (acc : List (Nat × Nat)) (v1 v2 v3 v4 : Option V), z.length < i + m ∧ acc.length ≤ i ∧ lex z = (acc ++ (lexF z m i cl).1, (lexF z m i cl).2) ∧
      σ = [some (.str z), some (.ref p), some (.ref r), some (.bl cl), some (.int (i : Int)), v1, v2, v3, v4] ∧ CutI z H H' p r acc i, ⟨z.length + 1, 0, false, [], none, none, none, none, by omega, Nat.le_refl _, rfl, rfl, (U.same_new np).trans (U.same_new nr), ⟨[], by rw [upd_ne pr]; exact upd_same, .nil, rfl⟩, [], upd_same, Nat.le_refl _⟩, ?_⟩
    rintro m σ H' ⟨i, cl, acc, v1, v2, v3, v4, hm, ha, el, rfl, ci⟩
    walk_at "w"
    refine U.ifD (fun h1 => ?_) (fun h1 => ?_)
    · obtain ⟨c, hc⟩ : ∃ c, z.cps.toList[i]? = some c := ⟨_, List.getElem?_eq_getElem (by omega)⟩
      obtain ⟨m, rfl⟩ : ∃ k, m = k + 1 := ⟨m - 1, by omega⟩
      refine ⟨fun σ' H2 => _, fun σ' H2 q => ⟨m, Nat.lt_succ_self m, q⟩, ?_⟩
      walk_at "w"
      refine Or.inr (Or.inr ⟨z, _, c, rfl, rfl, U.sz (by omega), U.atN _ rfl hc, ?_⟩)
      walk_at "w"
      rw [l_sp]
      refine U.ifDs (fun h2 => ?_) (fun h2 => ?_)
      · rw [lexF_sp hc (s1_inj.mp h2)] at el
        walk_at "w"
        obtain ⟨c1, c2, ss, c3, c4⟩ := ci
        exact ⟨i + 1, false, acc, _, v2, v3, v4, by omega, by omega, el, rfl, c1, c2, ss, c3, by omega⟩
      · have h2 : ¬ c = 32 := fun q => h2 (s1_inj.mpr q)
        have ge := tokEnd_ge z i
        have bad : (tokEnd z i = i ∨ (cl && isLt c) = true) → ∀ H2, Same H' H2 → ∀ q, H2 q = none → Q (.ref q) (upd H2 q (.tup [.ref p, .ref r, .int (i : Int)])) := fun hb H2 s2 q nq => by
          rw [lexF_bad hc h2 hb, List.append_nil] at el
          refine k q p _ ((ci.1.trans s2).trans (U.same_new nq)) np ⟨r, by rw [upd_same, el] <;> rfl⟩ (by rw [el]; exact (ci.2.1.same s2).same (U.same_new nq))
        walk_at "w"
        refine ⟨_, _, _, rfl, rfl, T.q_SORTS, ?_⟩
        walk_at "w"
        cases hs : sortOf c with
        | some st =>
          refine U.ifB true (by rw [sort_at, hs] <;> rfl) (iteT ?_)
          walk_at "w"
          refine ⟨_, _, _, _, rfl, rfl, T.q_SORTS, by rw [sort_at, hs] <;> rfl, ?_⟩
          walk_at "w"
          refine ⟨z, i, c, st, rfl, hz, hc, hs, fun H1 s1 => ?_⟩
          have ci1 := ci.keep s1
          walk_at "w"
          refine U.ifDi (fun h3 => ?_) (fun h3 => ?_)
          · walk_at "w"
            exact bad (.inl (by omega)) _ s1
          · have h3' : ¬ ((tokEnd z i : Nat) : Int) = (i : Int) := h3
            cases cl with
            | false =>
              rw [lexF_go hc h2 (by rintro (q | q); omega; cases q)] at el
              walk_at "w"
              obtain ⟨sH1, ⟨ts, q1, q2, q3⟩, ss, hr1, hl1⟩ := ci1
              walk_at "w"
              intro t nt
              have q1' := U.same_new (o := HO.tup [V.str (cutS z (some (i : Int)) (some ((tokEnd z i : Nat) : Int))), V.int (i : Int)]) nt _ _ q1
              have gr3 : (upd (upd H1 t (HO.tup [V.str (cutS z (some (i : Int)) (some ((tokEnd z i : Nat) : Int))), V.int (i : Int)])) p (.lst (ts.map V.ref ++ [.ref t]))) r = some (.lst ss) := by
                rw [upd_ne (Ne.symm pr)]
                exact U.same_new nt _ _ hr1
              have cp := fun v : V => CutI.push (z := z) (i2 := tokEnd z i) (v := v) (s := (i, tokEnd z i)) (o := HO.tup [V.str (cutS z (some (i : Int)) (some ((tokEnd z i : Nat) : Int))), V.int (i : Int)]) np nr0 pr sH1 q1 q2 q3 hr1 hl1 nt upd_same (by omega)
              walk_at "w"
              refine ⟨_, _, _, rfl, rfl, T.q_OWN_WORDS, ?_⟩
              walk_at "w"
              refine U.ifBl (fun _ => ?_) (fun _ => ?_)
              · walk_at "w"
                refine ⟨tokEnd z i, true, acc ++ [(i, tokEnd z i)], _, _, _, _, by omega, ?_, ?_, rfl, cp _⟩
                · rw [List.length_append, List.length_singleton]
                  omega
                · rw [el, List.append_assoc, sort_cl hs] <;> rfl
              · walk_at "w"
                refine ⟨tokEnd z i, true, acc ++ [(i, tokEnd z i)], _, _, _, _, by omega, ?_, ?_, rfl, cp _⟩
                · rw [List.length_append, List.length_singleton]
                  omega
                · rw [el, List.append_assoc, sort_cl hs] <;> rfl
            | true =>
              walk_at "w"
              intro u nu
              walk_at "w"
              walk_at "w"
              have su := U.same_new (o := HO.tup [V.str (Str.ofString "'"), V.str (Str.ofString "$")]) nu
              refine U.ifB (isLt c) (sort_lt hs) (U.ifBl (fun h4 => ?_) (fun h4 => ?_))
              · walk_at "w"
                exact bad (.inr (by rw [h4] <;> rfl)) _ (s1.trans su)
              · rw [lexF_go hc h2 (by rintro (q | q); omega; rw [h4] at q; cases q)] at el
                walk_at "w"
                obtain ⟨sH1, ⟨ts, q1, q2, q3⟩, ss, hr1, hl1⟩ := ci1.keep su
                walk_at "w"
                intro t nt
                have q1' := U.same_new (o := HO.tup [V.str (cutS z (some (i : Int)) (some ((tokEnd z i : Nat) : Int))), V.int (i : Int)]) nt _ _ q1
                have gr3 : (upd (upd (upd H1 u (HO.tup [V.str (Str.ofString "'"), V.str (Str.ofString "$")])) t (HO.tup [V.str (cutS z (some (i : Int)) (some ((tokEnd z i : Nat) : Int))), V.int (i : Int)])) p (.lst (ts.map V.ref ++ [.ref t]))) r = some (.lst ss) := by
                  rw [upd_ne (Ne.symm pr)]
                  exact U.same_new nt _ _ hr1
                have cp := fun v : V => CutI.push (z := z) (i2 := tokEnd z i) (v := v) (s := (i, tokEnd z i)) (o := HO.tup [V.str (cutS z (some (i : Int)) (some ((tokEnd z i : Nat) : Int))), V.int (i : Int)]) np nr0 pr sH1 q1 q2 q3 hr1 hl1 nt upd_same (by omega)
                walk_at "w"
                refine ⟨_, _, _, rfl, rfl, T.q_OWN_WORDS, ?_⟩
                walk_at "w"
                refine U.ifBl (fun _ => ?_) (fun _ => ?_)
                · walk_at "w"
                  refine ⟨tokEnd z i, true, acc ++ [(i, tokEnd z i)], _, _, _, _, by omega, ?_, ?_, rfl, cp _⟩
                  · rw [List.length_append, List.length_singleton]
                    omega
                  · rw [el, List.append_assoc, sort_cl hs] <;> rfl
                · walk_at "w"
                  refine ⟨tokEnd z i, true, acc ++ [(i, tokEnd z i)], _, _, _, _, by omega, ?_, ?_, rfl, cp _⟩
                  · rw [List.length_append, List.length_singleton]
                    omega
                  · rw [el, List.append_assoc, sort_cl hs] <;> rfl
        | none =>
          refine U.ifB false (by rw [sort_at, hs] <;> rfl) (iteF ?_)
          walk_at "w"
          refine U.ifB (isSg c) rfl (U.ifBl (fun h4 => ?_) (fun h4 => ?_))
          · have et := tok_sg hc hs h4
            rw [lexF_go hc h2 (by rintro (q | q); split at et <;> omega; rw [sg_lt h4, Bool.and_false] at q; cases q)] at el
            obtain ⟨sH1, ⟨ts, q1, q2, q3⟩, ss, hr1, hl1⟩ := ci
            walk_at "w"
            rw [l_mi]
            refine U.ifDs (fun h5 => ?_) (fun h5 => ?_)
            · have h5' : c = 45 := s1_inj.mp h5
              walk_at "w"
              rw [l_gt]
              refine U.ifDs (fun h6 => ?_) (fun h6 => ?_)
              · have h6' := (cut1_is' z i 62).mp h6
                have ee : tokEnd z i = i + 2 := by rw [et, if_pos ⟨h5', h6'⟩]
                have e1 := (cut2_is z i c hc).mpr ⟨h5', h6'⟩
                walk_at "w"
                intro t nt
                have q1' := U.same_new (o := HO.tup [V.str (Str.ofString "->"), V.int (i : Int)]) nt _ _ q1
                have gr3 : (upd (upd H' t (HO.tup [V.str (Str.ofString "->"), V.int (i : Int)])) p (.lst (ts.map V.ref ++ [.ref t]))) r = some (.lst ss) := by
                  rw [upd_ne (Ne.symm pr)]
                  exact U.same_new nt _ _ hr1
                have cp := CutI.push (z := z) (i2 := tokEnd z i) (v := V.str (Str.ofString "->")) (s := (i, tokEnd z i)) (o := HO.tup [V.str (Str.ofString "->"), V.int (i : Int)]) np nr0 pr sH1 q1 q2 q3 hr1 hl1 nt (by show _ = _; rw [upd_same, ee, l_ar, ← e1] <;> rfl) (by omega)
                walk_at "w"
                refine Or.inl ⟨_, rfl, U.sz (by decide +kernel), ?_⟩
                walk_at "w"
                have ei : V.int ((i : Int) + (((Str.ofString "->") : Str).length : Int)) = V.int ((tokEnd z i : Nat) : Int) := congrArg V.int (by rw [ee]; exact (rfl))
                refine ⟨tokEnd z i, false, acc ++ [(i, tokEnd z i)], _, v2, v3, _, by omega, ?_, ?_, (by rw [← ei] <;> rfl), cp⟩
                · rw [List.length_append, List.length_singleton]
                  omega
                · rw [el, List.append_assoc, sort_sg h4 hs] <;> rfl
              · have h6' := fun q => h6 ((cut1_is' z i 62).mpr q)
                have ee : tokEnd z i = i + 1 := by rw [et, if_neg (fun q => h6' q.2)]
                have e1 := (cut1_is z i c).mpr hc
                walk_at "w"
                intro t nt
                have q1' := U.same_new (o := HO.tup [V.str (⟨#[c]⟩ : Str), V.int (i : Int)]) nt _ _ q1
                have gr3 : (upd (upd H' t (HO.tup [V.str (⟨#[c]⟩ : Str), V.int (i : Int)])) p (.lst (ts.map V.ref ++ [.ref t]))) r = some (.lst ss) := by
                  rw [upd_ne (Ne.symm pr)]
                  exact U.same_new nt _ _ hr1
                have cp := CutI.push (z := z) (i2 := tokEnd z i) (v := V.str (⟨#[c]⟩ : Str)) (s := (i, tokEnd z i)) (o := HO.tup [V.str (⟨#[c]⟩ : Str), V.int (i : Int)]) np nr0 pr sH1 q1 q2 q3 hr1 hl1 nt (by show _ = _; rw [upd_same, ee, ← e1] <;> rfl) (by omega)
                walk_at "w"
                refine Or.inl ⟨_, rfl, U.sz (by show 1 ≤ 100000; decide), ?_⟩
                walk_at "w"
                have ei : V.int ((i : Int) + (((⟨#[c]⟩ : Str) : Str).length : Int)) = V.int ((tokEnd z i : Nat) : Int) := congrArg V.int (by rw [ee]; exact (rfl))
                refine ⟨tokEnd z i, false, acc ++ [(i, tokEnd z i)], _, v2, v3, _, by omega, ?_, ?_, (by rw [← ei] <;> rfl), cp⟩
                · rw [List.length_append, List.length_singleton]
                  omega
                · rw [el, List.append_assoc, sort_sg h4 hs] <;> rfl
            · have ee : tokEnd z i = i + 1 := by rw [et, if_neg (fun q => h5 (s1_inj.mpr q.1))]
              have e1 := (cut1_is z i c).mpr hc
              walk_at "w"
              intro t nt
              have q1' := U.same_new (o := HO.tup [V.str (⟨#[c]⟩ : Str), V.int (i : Int)]) nt _ _ q1
              have gr3 : (upd (upd H' t (HO.tup [V.str (⟨#[c]⟩ : Str), V.int (i : Int)])) p (.lst (ts.map V.ref ++ [.ref t]))) r = some (.lst ss) := by
                rw [upd_ne (Ne.symm pr)]
                exact U.same_new nt _ _ hr1
              have cp := CutI.push (z := z) (i2 := tokEnd z i) (v := V.str (⟨#[c]⟩ : Str)) (s := (i, tokEnd z i)) (o := HO.tup [V.str (⟨#[c]⟩ : Str), V.int (i : Int)]) np nr0 pr sH1 q1 q2 q3 hr1 hl1 nt (by show _ = _; rw [upd_same, ee, ← e1] <;> rfl) (by omega)
              walk_at "w"
              refine Or.inl ⟨_, rfl, U.sz (by show 1 ≤ 100000; decide), ?_⟩
              walk_at "w"
              have ei : V.int ((i : Int) + (((⟨#[c]⟩ : Str) : Str).length : Int)) = V.int ((tokEnd z i : Nat) : Int) := congrArg V.int (by rw [ee]; exact (rfl))
              refine ⟨tokEnd z i, false, acc ++ [(i, tokEnd z i)], _, v2, v3, _, by omega, ?_, ?_, (by rw [← ei] <;> rfl), cp⟩
              · rw [List.length_append, List.length_singleton]
                omega
              · rw [el, List.append_assoc, sort_sg h4 hs] <;> rfl
          · walk_at "w"
            exact bad (.inl (tok_odd hc hs h4)) _ (Same.refl _)
    · walk_at "w"
      rw [lexF_end (by omega), List.append_nil] at el
      intro q nq
      exact k q p _ (ci.1.trans (U.same_new nq)) np ⟨r, by rw [upd_same, el] <;> rfl⟩ (by rw [el]; exact ci.2.1.same (U.same_new nq))
end
section
variable {P : Program} {w : World} {K : PySem.W.Frag} {mg : Str → Option Value} {base : Heap} {A : Ad}
def spInit (K : PySem.W.Frag) (C : Addr) : Sp := fun vs H Q _ => ∃ (a : Addr) (v : V), vs = [.ref a, v] ∧ OexC K C ∧ PySem.W.findIn K (.ref C) "at" = some none ∧ H a = some (exo a C none) ∧ ∀ dx, H dx = none → dx ≠ a → Q .non (upd (upd H dx (exd dx [("at", v)])) a (exo a C (some dx)))
theorem ok_BadText_init (T : Top w K mg A) : FnOk P w K mg base CX0 1 A.a_BadText_init A.fd_BadText_init ["self", "at"] (spInit K A.c_BadText) := by
  refine T.F_BadText_init.ok sc_BadText_init (fun vs H Q E h => ?_) (fun cdv A outer s H vs Q E hr h => ?_)
  · obtain ⟨a, v, rfl, _⟩ := h
    rfl
  · obtain ⟨a, v, rfl, hC, hn, ha, k⟩ := h
    refine ⟨_, (pss_one (ps_ost (pv 0) (pv 1))), ?_⟩
    walk_at "w"
    exact ⟨a, _, rfl, hC, hn, .inl ⟨ha, k⟩⟩
def spTokens (C : Addr) : Sp := fun vs H Q E => ∃ (z : Str), vs = [.str z] ∧ z.length ≤ 10000 ∧
  (∀ w, (lex z).2 = some w → ∀ (d : Addr) (H' : Hp), Same H H' → H' d = some (.xd [("at", .int (w : Int))]) → E (.ref C) (some d) H') ∧
  ((lex z).2 = none → ∀ (p : Addr) (H' : Hp), Same H H' → H p = none → Toks z H' p (lex z).1 → Q (.ref p) H')
theorem ok_tokens (T : Top w K mg A) : FnOk P w K mg base (L2.CX P w) 5 A.a_tokens A.fd_tokens ["text"] (spTokens A.c_BadText) := by
  refine T.F_tokens.okX sc_tokens (fun vs H Q E h => ?_) (fun cdv A outer s H vs Q E hr h => ?_)
  · obtain ⟨z, rfl, _⟩ := h
    rfl
  · obtain ⟨z, rfl, hz, k1, k2⟩ := h
    refine ⟨_, (pss_cons (ps_asg (pe_call (ok_cut T) (hr.mono (by decide)) rfl T.m_cut T.F_cut.kp T.b_cut .nil pass0 (pa_cons (pv 0) pa_nil)) (pg_tup rfl (pgs_cons (pg_name (i := 1) sc_tokens.nd rfl (Or.inl rfl)) (pgs_cons (pg_name (i := 2) sc_tokens.nd rfl (Or.inl rfl)) (pgs_cons (pg_name (i := 3) sc_tokens.nd rfl (Or.inl rfl)) pgs_nil)))))
    (pss_cons (ps_if (pt_cmpR op_notN (pv 3) pe_non (nomark _)) (pss_one (ps_raise rfl (takes_of rfl rfl rfl rfl) (pmk_oex T.ox_BadText T.i_BadText T.t_BadText (ok_BadText_init T) (hr.mono (by decide)) T.b_BadText_init .nil pass0 rfl T.m_BadText (pa_cons (pv 3) pa_nil)))) pss_nil)
    (pss_one (ps_ret (pv 1))))), ?_⟩
    walk_at "w"
    intro q p H1 s1 np hq tk
    obtain ⟨r, hq⟩ := hq
    refine ⟨_, _, rfl, SqT.of hq, rfl, ?_⟩
    walk_at "w"
    cases e : (lex z).2 with
    | none =>
      refine U.ifB false rfl ?_
      walk_at "w"
      exact k2 e p H1 s1 np tk
    | some n =>
      refine U.ifB true rfl ?_
      walk_at "w"
      refine ⟨by show 1 ≤ 1000; decide, fun a na => ?_⟩
      refine ⟨a, _, rfl, T.ox_BadText, T.no_BadText_at, upd_same, fun dx nd ne => ?_⟩
      refine ⟨rfl, dx, [("at", .int (n : Int))], upd_same, ?_, ?_, ?_⟩
      · rw [upd_ne ne, upd_same] <;> rfl
      · rw [upd_ne ne] at nd
        exact nd
      · refine k1 n e dx _ (fun b o hb => ?_) upd_same
        have nb : b ≠ dx := fun q => by
          rw [q] at hb
          rw [upd_ne ne] at nd
          rw [s1 _ _ hb] at nd
          cases nd
        have na' : b ≠ a := ne_of_none (s1 _ _ hb) na
        rw [upd_ne nb, del_ne na', upd_ne na', upd_ne nb, upd_ne na']
        exact s1 _ _ hb
end
section
variable {P : Program} {w : World} {K : PySem.W.Frag} {mg : Str → Option Value} {base : Heap} {A : Ad}
def spLRun : Sp := fun vs H Q _ => ∃ (z : Str) (b : Nat) (sg : Str) (m : Nat), vs = [.str z, .int b, .str sg, .int m] ∧ z.length ≤ 10000 ∧ ∀ H', Same H H' → Q (.int ((runLen (memB sg) (z.cps.toList.drop b) m : Nat) : Int)) H'
theorem ok_law_run (T : Top w K mg A) : FnOk P w K mg base CX0 1 A.a_law_run A.fd_law_run ["text", "spot", "signs", "most"] spLRun := by
  refine T.F_law_run.ok sc_law_run (fun vs H Q E h => ?_) (fun cdv A outer s H vs Q E hr h => ?_)
  · obtain ⟨z, b, sg, m, rfl, _⟩ := h
    rfl
  · obtain ⟨z, b, sg, m, rfl, hz, k⟩ := h
    refine ⟨_, (pss_cons (ps_set (i := 4) sc_law_run.nd rfl (Or.inl rfl) pe_int)
    (pss_cons (ps_while PassesOwn.never (PW.pt (pw_and (pt_cmpR U.uLt (pv 4) (pv 3) (nomark _)) (pw_and (pt_cmpR U.uLt (pe_op U.uAdd (pv 1) (pv 4)) (pe_callB (U.uLen (K := K) rfl) (by rfl) T.n_len (by decide +kernel) (pa_cons (pv 0) pa_nil)) (nomark _)) (pw_and1 (pt_cmpR (U.uIn (K := K) rfl) (pe_ix (U.uIx (K := K) rfl) (pv 0) (pe_op U.uAdd (pv 1) (pv 4)) (fun _ _ => rfl)) (pv 2) rfl))))) (pss_one (ps_set (i := 4) sc_law_run.nd rfl (Or.inl rfl) (pe_op U.uAdd (pv 4) pe_int))))
    (pss_one (ps_ret (pv 4))))), ?_⟩
    walk_at "w"
    refine ⟨fun n σ H' => H' = H ∧ ∃ j : Nat, n + j = m ∧ σ = [some (.str z), some (.int b), some (.str sg), some (.int m), some (.int (j : Int))] ∧ runLen (memB sg) (z.cps.toList.drop b) m = j + runLen (memB sg) (z.cps.toList.drop (b + j)) (m - j), ⟨m, rfl, 0, by omega, rfl, by simp⟩, ?_⟩
    rintro n σ H' ⟨rfl, j, hj, rfl, e⟩
    have ez := U.zlen z
    have fin : runLen (memB sg) (z.cps.toList.drop (b + j)) (m - j) = 0 → Q (.int (j : Int)) H' := fun h0 => by
      rw [h0, Nat.add_zero] at e
      rw [e] at k
      exact k _ (Same.refl _)
    walk_at "w"
    refine U.ifD (fun h1 => ?_) (fun h1 => ?_)
    · walk_at "w"
      refine U.ifD (fun h2 => ?_) (fun h2 => ?_)
      · obtain ⟨c, hc⟩ : ∃ c, z.cps.toList[b + j]? = some c := ⟨_, List.getElem?_eq_getElem (by omega)⟩
        walk_at "w"
        refine Or.inr (Or.inr ⟨z, _, c, rfl, rfl, U.sz (by omega), U.atN _ rfl hc, ?_⟩)
        walk_at "w"
        refine U.ifB (memB sg c) rfl (U.ifBl (fun h3 => ?_) (fun h3 => ?_))
        · refine ⟨fun σ' H' => _, fun σ' H' q => ⟨n - 1, by omega, q⟩, ?_⟩
          walk_at "w"
          refine ⟨rfl, j + 1, by omega, rfl, ?_⟩
          rw [e, runLen_step hc h3 (by omega), Nat.add_assoc b j 1, show m - j - 1 = m - (j + 1) by omega]
          omega
        · walk_at "w"
          exact fin (runLen_stop hc h3)
      · walk_at "w"
        exact fin (runLen_end (by omega))
    · walk_at "w"
      refine fin ?_
      rw [show m - j = 0 by omega]
      exact runLen_zero
def spLWord : Sp := fun vs H Q _ => ∃ (z : Str) (b c : Nat), vs = [.str z, .int b] ∧ z.length ≤ 10000 ∧ z.cps.toList[b]? = some c ∧ inR 97 122 c = true ∧ ∀ H', Same H H' → Q (.int ((wordEnd z.cps.toList b : Nat) : Int)) H'
theorem lastW {l : List Nat} {b r : Nat} {Q : VK} {H H1 : Hp} (h : 0 < r → l[b + r]? = some 48 ∨ runLen (inR 48 57) (l.drop (b + r)) 3 = 0) (k : ∀ H', Same H H' → Q (.int (((if r = 0 ∨ l[b + r]? = some 48 then b + r else b + r + runLen (inR 48 57) (l.drop (b + r)) 3) : Nat) : Int)) H')
    (s : Same H H1) : Q (.int ((b : Int) + (r : Int))) H1 := by
  have k := k H1 s
  by_cases h1 : r = 0 ∨ l[b + r]? = some 48
  · rw [if_pos h1] at k
    exact k
  · rw [if_neg h1] at k
    rcases h (by omega) with q | q
    · exact absurd (.inr q) h1
    · rw [q] at k
      exact k
theorem ok_law_word_end (T : Top w K mg A) : FnOk P w K mg base CX0 2 A.a_law_word_end A.fd_law_word_end ["text", "spot"] spLWord := by
  refine T.F_law_word_end.ok sc_law_word_end (fun vs H Q E h => ?_) (fun cdv A outer s H vs Q E hr h => ?_)
  · obtain ⟨z, b, c, rfl, _⟩ := h
    rfl
  · obtain ⟨z, b, c, rfl, hz, hc, hl, k⟩ := h
    refine ⟨_, (pss_cons (ps_set (i := 2) sc_law_word_end.nd rfl (Or.inl rfl) (pe_op U.uAdd (pv 1) (pe_call (ok_law_run T) (hr.mono (by decide)) rfl T.m_law_run T.F_law_run.kp T.b_law_run .nil pass0 (pa_cons (pv 0) (pa_cons (pv 1) (pa_cons pe_str (pa_cons pe_int pa_nil)))))))
    (pss_cons (ps_if (PW.pt (pw_and (pt_cmpR U.uLt (pv 2) (pe_callB (U.uLen (K := K) rfl) (by rfl) T.n_len (by decide +kernel) (pa_cons (pv 0) pa_nil)) (nomark _)) (pw_and1 (pt_cmpR (U.uIn (K := K) rfl) (pe_ix (U.uIx (K := K) rfl) (pv 0) (pv 2) (fun _ _ => rfl)) pe_str rfl)))) (pss_one (ps_set (i := 2) sc_law_word_end.nd rfl (Or.inl rfl) (pe_op U.uAdd (pv 2) (pe_call (ok_law_run T) (hr.mono (by decide)) rfl T.m_law_run T.F_law_run.kp T.b_law_run .nil pass0 (pa_cons (pv 0) (pa_cons (pv 2) (pa_cons pe_str (pa_cons pe_int pa_nil)))))))) pss_nil)
    (pss_one (ps_ret (pv 2))))), ?_⟩
    have ez := U.zlen z
    have hp : 0 < runLen (inR 97 122) (z.cps.toList.drop b) 6 := by
      rw [runLen_step hc hl (by omega)]
      omega
    unfold wordEnd at k
    walk_at "w"
    refine ⟨z, b, _, 6, rfl, hz, fun H1 s1 => ?_⟩
    rw [mem_small]
    walk_at "w"
    refine U.ifD (fun h1 => ?_) (fun h1 => ?_)
    · obtain ⟨d, hd⟩ : ∃ d, z.cps.toList[b + runLen (inR 97 122) (z.cps.toList.drop b) 6]? = some d := ⟨_, List.getElem?_eq_getElem (by omega)⟩
      walk_at "w"
      refine Or.inr (Or.inr ⟨z, _, d, rfl, rfl, U.sz (by omega), U.atN _ rfl hd, ?_⟩)
      walk_at "w"
      refine U.ifB (inR 49 57 d) (by rw [← mem_dig1] <;> rfl) (U.ifBl (fun h3 => ?_) (fun h3 => ?_))
      · walk_at "w"
        refine ⟨z, b + runLen (inR 97 122) (z.cps.toList.drop b) 6, _, 3, rfl, hz, fun H2 s2 => ?_⟩
        rw [mem_dig]
        walk_at "w"
        rw [if_neg (by rintro (q | q); omega; rw [hd] at q; have q := Option.some.inj q; rw [q] at h3; cases h3)] at k
        exact k _ (s1.trans s2)
      · walk_at "w"
        refine lastW (fun _ => ?_) k s1
        by_cases h48 : d = 48
        · exact .inl (by rw [hd, h48])
        · refine .inr (runLen_stop hd ?_)
          unfold inR at h3 ⊢
          by_cases hx : 48 ≤ d
          · by_cases hy : d ≤ 57
            · rw [decide_eq_true (show 49 ≤ d by omega), decide_eq_true hy] at h3
              cases h3
            · rw [decide_eq_false hy, Bool.and_false]
          · rw [decide_eq_false hx, Bool.false_and]
    · walk_at "w"
      exact lastW (fun _ => .inr (runLen_end (by omega))) k s1
def spTok : Sp := fun vs H Q _ => ∃ (z : Str) (b : Nat), vs = [.str z, .int b] ∧ z.length ≤ 10000 ∧ b < z.length ∧ ∀ H', Same H H' → Q (.int ((tokEnd z b : Nat) : Int)) H'
theorem ok_law_one (T : Top w K mg A) : FnOk P w K mg base CX0 3 A.a_law_one A.fd_law_one ["text", "spot"] spTok := by
  refine T.F_law_one.ok sc_law_one (fun vs H Q E h => ?_) (fun cdv A outer s H vs Q E hr h => ?_)
  · obtain ⟨z, b, rfl, _⟩ := h
    rfl
  · obtain ⟨z, b, rfl, hz, hb, k⟩ := h
    refine ⟨_, (pss_cons (ps_par (i := 2) (j := 3) rfl sc_law_one.nd rfl rfl (by decide) rfl rfl (pa_cons (pe_ix (U.uIx (K := K) rfl) (pv 0) (pv 1) (fun _ _ => rfl)) (pa_cons pe_str pa_nil)) rfl)
    (pss_cons (ps_if (pt_cmpR (U.uIn (K := K) rfl) (pv 2) (pv 3) rfl) (pss_one (ps_ret (pe_call (ok_law_word_end T) (hr.mono (by decide)) rfl T.m_law_word_end T.F_law_word_end.kp T.b_law_word_end .nil pass0 (pa_cons (pv 0) (pa_cons (pv 1) pa_nil))))) pss_nil)
    (pss_cons (ps_if (pt_cmpR (U.uIn (K := K) rfl) (pv 2) pe_str rfl) (pss_cons (ps_set (i := 4) sc_law_one.nd rfl (Or.inl rfl) (pe_ifExp (PW.pt (pw_and (pt_cmpR U.uLt (pe_op U.uAdd (pv 1) pe_int) (pe_callB (U.uLen (K := K) rfl) (by rfl) T.n_len (by decide +kernel) (pa_cons (pv 0) pa_nil)) (nomark _)) (pw_and1 (pt_cmpR (U.uIn (K := K) rfl) (pe_ix (U.uIx (K := K) rfl) (pv 0) (pe_op U.uAdd (pv 1) pe_int) (fun _ _ => rfl)) (pv 3) rfl)))) (pe_call (ok_law_word_end T) (hr.mono (by decide)) rfl T.m_law_word_end T.F_law_word_end.kp T.b_law_word_end .nil pass0 (pa_cons (pv 0) (pa_cons (pe_op U.uAdd (pv 1) pe_int) pa_nil))) (pv 1)))
    (pss_cons (ps_set (i := 5) sc_law_one.nd rfl (Or.inl rfl) (pe_lst (pa_cons pe_str (pa_cons pe_str (pa_cons pe_str (pa_cons pe_str (pa_cons pe_str (pa_cons pe_str (pa_cons pe_str (pa_cons pe_str pa_nil))))))))))
    (pss_one (ps_ret (pe_ifExp (pt_cmpR (U.uIn (K := K) rfl) (pe_slice (U.uSl (K := K) rfl) (pv 0) (po_some (pe_op U.uAdd (pv 1) pe_int)) (po_some (pv 4))) (pv 5) rfl) (pv 1) (pv 4)))))) pss_nil)
    (pss_cons (ps_if (pt_cmpR (U.uIn (K := K) rfl) (pv 2) pe_str rfl) (pss_one (ps_ret (pe_op U.uAdd (pe_op U.uAdd (pv 1) pe_int) (pe_call (ok_law_run T) (hr.mono (by decide)) rfl T.m_law_run T.F_law_run.kp T.b_law_run .nil pass0 (pa_cons (pv 0) (pa_cons (pe_op U.uAdd (pv 1) pe_int) (pa_cons (pv 3) (pa_cons pe_int pa_nil)))))))) pss_nil)
    (pss_cons (ps_if (pt_cmpR (U.uIn (K := K) rfl) (pv 2) pe_str rfl) (pss_cons (ps_if (pt_cmpR (U.uEq (K := K) rfl hr.units) (pv 2) pe_str (nomark _)) (pss_one (ps_ret (pe_op U.uAdd (pv 1) pe_int))) pss_nil)
    (pss_one (ps_ret (pe_op U.uAdd (pv 1) (pe_call (ok_law_run T) (hr.mono (by decide)) rfl T.m_law_run T.F_law_run.kp T.b_law_run .nil pass0 (pa_cons (pv 0) (pa_cons (pv 1) (pa_cons pe_str (pa_cons (pe_callB (U.uLen (K := K) rfl) (by rfl) T.n_len (by decide +kernel) (pa_cons (pv 0) pa_nil)) pa_nil))))))))) pss_nil)
    (pss_cons (ps_if (pt_cmpR (U.uEq (K := K) rfl hr.units) (pe_slice (U.uSl (K := K) rfl) (pv 0) (po_some (pv 1)) (po_some (pe_op U.uAdd (pv 1) pe_int))) pe_str (nomark _)) (pss_one (ps_ret (pe_op U.uAdd (pv 1) pe_int))) pss_nil)
    (pss_one (ps_ret (pe_ifExp (pt_cmpR (U.uIn (K := K) rfl) (pv 2) pe_str rfl) (pe_op U.uAdd (pv 1) pe_int) (pv 1)))))))))), ?_⟩
    have ez := U.zlen z
    obtain ⟨c, hc⟩ : ∃ c, z.cps.toList[b]? = some c := ⟨_, List.getElem?_eq_getElem (by omega)⟩
    have hw := wordEnd_ge z.cps.toList b
    unfold tokEnd at k
    rw [hc] at k
    dsimp only at k
    walk_at "w"
    refine Or.inr (Or.inr ⟨z, _, c, rfl, rfl, U.sz (by omega), U.atN _ rfl hc, ?_⟩)
    walk_at "w"
    refine U.ifB (inR 97 122 c) (by rw [← mem_small] <;> rfl) (U.ifBl (fun h3 => ?_) (fun h3 => ?_))
    · have ⟨g1, g2⟩ := inR_t h3
      rw [if_neg (by unfold isQ; rw [decide_eq_false (show ¬ c = 39 by omega), decide_eq_false (show ¬ c = 36 by omega)]; decide), if_neg (by omega), if_neg (by rw [not_sg (.inr (.inr (.inl ⟨g1, g2⟩)))]; decide),
        tag_none hc (inR_f (by omega)), num_none hc (inR_f (by omega)), Nat.max_eq_left hw, Nat.max_eq_left hw] at k
      walk_at "w"
      exact ⟨z, b, c, rfl, hz, hc, h3, k⟩
    · walk_at "w"
      refine U.ifB (isQ c) (by rw [← mem_q] <;> rfl) (U.ifBl (fun h4 => ?_) (fun h4 => ?_))
      · rw [if_pos h4] at k
        walk_at "w"
        refine U.ifD (fun h6 => ?_) (fun h6 => ?_)
        · obtain ⟨d, hd⟩ : ∃ d, z.cps.toList[b + 1]? = some d := ⟨_, List.getElem?_eq_getElem (by omega)⟩
          walk_at "w"
          refine Or.inr (Or.inr ⟨z, _, d, rfl, rfl, U.sz (by omega), U.atN _ rfl hd, ?_⟩)
          walk_at "w"
          refine U.ifB (inR 97 122 d) (by rw [← mem_small] <;> rfl) (U.ifBl (fun h7 => ?_) (fun h7 => ?_))
          · walk_at "w"
            refine ⟨z, b + 1, d, rfl, hz, hd, h7, fun H1 s1 => ?_⟩
            walk_at "w"
            intro p np
            walk_at "w"
            walk_at "w"
            refine U.ifBl (fun h9 => ?_) (fun h9 => ?_)
            · rw [if_pos (.inr h9)] at k
              walk_at "w"
              exact k _ (s1.trans (U.same_new np))
            · have hg : b + 1 < wordEnd z.cps.toList (b + 1) := by
                unfold wordEnd
                rw [runLen_step hd h7 (by omega)]
                split <;> omega
              rw [if_neg (fun q => q.elim (fun q => by omega) fun q => Bool.false_ne_true (h9.symm.trans q))] at k
              walk_at "w"
              exact k _ (s1.trans (U.same_new np))
          · walk_at "w"
            intro p np
            walk_at "w"
            walk_at "w"
            rw [if_pos (.inl (word_none hd h7))] at k
            refine U.ifBl (fun h9 => ?_) (fun h9 => ?_) <;> walk_at "w" <;> exact k _ (U.same_new np)
        · walk_at "w"
          intro p np
          walk_at "w"
          walk_at "w"
          rw [if_pos (.inl (word_out (by omega)))] at k
          refine U.ifBl (fun h9 => ?_) (fun h9 => ?_) <;> walk_at "w" <;> exact k _ (U.same_new np)
      · rw [if_neg (by rw [h4]; decide), word_none hc h3] at k
        walk_at "w"
        refine U.ifB (inR 65 90 c) (by rw [← mem_big] <;> rfl) (U.ifBl (fun h5 => ?_) (fun h5 => ?_))
        · have ⟨g1, g2⟩ := inR_t h5
          rw [if_neg (by omega), if_neg (by rw [not_sg (.inr (.inr (.inr (.inl ⟨g1, g2⟩))))]; decide), num_none hc (inR_f (by omega)), tag_some hc h5, Nat.max_eq_right (show b ≤ _ by omega), Nat.max_eq_left (show b ≤ _ by omega)] at k
          walk_at "w"
          refine ⟨z, b + 1, _, 5, rfl, hz, fun H1 s1 => ?_⟩
          rw [mem_small]
          walk_at "w"
          exact k _ s1
        · rw [tag_none hc h5, Nat.max_self] at k
          walk_at "w"
          refine U.ifB (inR 48 57 c) (by rw [← mem_dig] <;> rfl) (U.ifBl (fun h6 => ?_) (fun h6 => ?_))
          · have ⟨g1, g2⟩ := inR_t h6
            rw [if_neg (by omega), if_neg (by rw [not_sg (.inr (.inr (.inr (.inr ⟨g1, g2⟩))))]; decide)] at k
            unfold numEnd at k
            walk_at "w"
            rw [l_0]
            refine U.ifDs (fun h7 => ?_) (fun h7 => ?_)
            · rw [if_pos (by rw [hc, s1_inj.mp h7]), Nat.max_eq_right (by omega)] at k
              walk_at "w"
              exact k _ (Same.refl _)
            · rw [if_neg (fun q => h7 (s1_inj.mpr (by rw [hc] at q; exact Option.some.inj q))), Nat.max_eq_right (by omega)] at k
              walk_at "w"
              refine ⟨z, b, _, z.length, rfl, hz, fun H1 s1 => ?_⟩
              rw [mem_dig, ez]
              walk_at "w"
              exact k _ s1
          · rw [num_none hc h6, Nat.max_self] at k
            walk_at "w"
            rw [l_ar]
            refine U.ifDs (fun h7 => ?_) (fun h7 => ?_)
            · rw [if_pos ((cut2_is z b c hc).mp h7)] at k
              walk_at "w"
              exact k _ (Same.refl _)
            · rw [if_neg (fun q => h7 ((cut2_is z b c hc).mpr q))] at k
              walk_at "w"
              refine U.ifB (isSg c) rfl (U.ifBl (fun h8 => ?_) (fun h8 => ?_))
              · rw [if_pos h8] at k
                walk_at "w"
                exact k _ (Same.refl _)
              · rw [if_neg (by rw [h8]; decide)] at k
                walk_at "w"
                exact k _ (Same.refl _)
end
section
variable {P : Program} {w : World} {K : PySem.W.Frag} {mg : Str → Option Value} {base : Heap} {A : Ad}
theorem mem_sq (c : Nat) : memB "(){}[]<>=,;:.|+-*/@^_'$" c = (isSg c || isQ c) := by
  unfold memB isSg isQ
  rw [sg_list, show (Str.ofString "(){}[]<>=,;:.|+-*/@^_'$").cps.toList = [40, 41, 123, 125, 91, 93, 60, 62, 61, 44, 59, 58, 46, 124, 43, 45, 42, 47, 64, 94, 95, 39, 36] by decide +kernel]
  simp only [List.mem_cons, List.not_mem_nil, or_false, ← Bool.decide_or]
  exact decide_eq_decide.mpr (by omega)
theorem long_is (c : Nat) : (!isSg c) = (isLt c || isQ c) := by
  unfold isLt
  cases h : isQ c with
  | true =>
    have h' : c = 39 ∨ c = 36 := by
      unfold isQ at h
      simpa using h
    rw [not_sg (by omega)]
    rfl
  | false => cases isSg c <;> rfl
def dueV (z : Str) (H H' : Hp) (v : V) : Prop := match (lex z).2 with
  | some n => v = .int (n : Int)
  | none => ∃ p, v = .ref p ∧ H p = none ∧ Toks z H' p (lex z).1
def spDue : Sp := fun vs H Q _ => ∃ (z : Str), vs = [.str z] ∧ z.length ≤ 10000 ∧ ∀ (v : V) (H' : Hp), Same H H' → dueV z H H' v → Q v H'
theorem ok_law_due (T : Top w K mg A) : FnOk P w K mg base CX0 4 A.a_law_due A.fd_law_due ["text"] spDue := by
  refine T.F_law_due.ok sc_law_due (fun vs H Q E h => ?_) (fun cdv A outer s H vs Q E hr h => ?_)
  · obtain ⟨z, rfl, _⟩ := h
    rfl
  · obtain ⟨z, rfl, hz, k⟩ := h
    refine ⟨_, (pss_cons (ps_par3 (i := 1) (j := 2) (l := 3) rfl sc_law_due.nd rfl rfl rfl (by decide) (by decide) (by decide) rfl rfl rfl (pa_cons (pe_lst pa_nil) (pa_cons pe_int (pa_cons pe_bl pa_nil))) rfl)
    (pss_cons (ps_while PassesOwn.never (pt_cmpR U.uLt (pv 2) (pe_callB (U.uLen (K := K) rfl) (by rfl) T.n_len (by decide +kernel) (pa_cons (pv 0) pa_nil)) (nomark _)) (pss_one (ps_if (pt_cmpR (U.uEq (K := K) rfl hr.units) (pe_ix (U.uIx (K := K) rfl) (pv 0) (pv 2) (fun _ _ => rfl)) pe_str (nomark _)) (pss_one (ps_par (i := 2) (j := 3) rfl sc_law_due.nd rfl rfl (by decide) rfl rfl (pa_cons (pe_op U.uAdd (pv 2) pe_int) (pa_cons pe_bl pa_nil)) rfl)) (pss_cons (ps_set (i := 4) sc_law_due.nd rfl (Or.inl rfl) (pe_call (ok_law_one T) (hr.mono (by decide)) rfl T.m_law_one T.F_law_one.kp T.b_law_one .nil pass0 (pa_cons (pv 0) (pa_cons (pv 2) pa_nil))))
    (pss_cons (ps_set (i := 5) sc_law_due.nd rfl (Or.inl rfl) (pe_cmpR (U.uNotIn (K := K) rfl) (pe_ix (U.uIx (K := K) rfl) (pv 0) (pv 2) (fun _ _ => rfl)) pe_str rfl))
    (pss_cons (ps_set (i := 6) sc_law_due.nd rfl (Or.inl rfl) (pe_and (pv 3) (pe_one (pe_cmpR (U.uNotIn (K := K) rfl) (pe_ix (U.uIx (K := K) rfl) (pv 0) (pv 2) (fun _ _ => rfl)) pe_str rfl))))
    (pss_cons (ps_if (PW.pt (pw_or (pt_cmpR (U.uEq (K := K) rfl hr.units) (pv 4) (pv 2) (nomark _)) (pw_or1 (pt_val (pv 6))))) (pss_one (ps_ret (pv 2))) pss_nil)
    (pss_cons (ps_expr (pe_bm PySem.F.plainAttrs_list PySem.F.slot_list_append PySem.F.type_list_append mt_append (pv 1) (pa_cons (pe_tup (pa_cons (pe_slice (U.uSl (K := K) rfl) (pv 0) (po_some (pv 2)) (po_some (pv 4))) (pa_cons (pv 2) pa_nil))) pa_nil)))
    (pss_one (ps_par (i := 2) (j := 3) rfl sc_law_due.nd rfl rfl (by decide) rfl rfl (pa_cons (pv 4) (pa_cons (pv 5) pa_nil)) rfl))))))))))
    (pss_one (ps_ret (pv 1))))), ?_⟩
    have ez := U.zlen z
    walk_at "w"
    intro p np
    walk_at "w"
    refine ⟨_, _, _, rfl, ?_⟩
    refine ⟨fun m σ H' => ∃ (i : Nat) (cl : Bool) (acc : List (Nat × Nat)) (v1 v2 v3 : Option V), z.length < i + m ∧ acc.length ≤ i ∧ lex z = (acc ++ (lexF z m i cl).1, (lexF z m i cl).2) ∧
      σ = [some (.str z), some (.ref p), some (.int (i : Int)), some (.bl cl), v1, v2, v3] ∧ Same H H' ∧ Toks z H' p acc, ⟨z.length + 1, 0, false, [], none, none, none, by omega, Nat.le_refl _, rfl, rfl, U.same_new np, [], upd_same, .nil, rfl⟩, ?_⟩
    rintro m σ H' ⟨i, cl, acc, v1, v2, v3, hm, ha, el, rfl, sH, tk⟩
    walk_at "w"
    refine U.ifD (fun h1 => ?_) (fun h1 => ?_)
    · obtain ⟨c, hc⟩ : ∃ c, z.cps.toList[i]? = some c := ⟨_, List.getElem?_eq_getElem (by omega)⟩
      obtain ⟨m, rfl⟩ : ∃ k, m = k + 1 := ⟨m - 1, by omega⟩
      refine ⟨fun σ' H2 => _, fun σ' H2 q => ⟨m, Nat.lt_succ_self m, q⟩, ?_⟩
      walk_at "w"
      refine Or.inr (Or.inr ⟨z, _, c, rfl, rfl, U.sz (by omega), U.atN _ rfl hc, ?_⟩)
      walk_at "w"
      rw [l_sp]
      refine U.ifDs (fun h2 => ?_) (fun h2 => ?_)
      · rw [lexF_sp hc (s1_inj.mp h2)] at el
        walk_at "w"
        exact ⟨i + 1, false, acc, v1, v2, v3, by omega, by omega, el, rfl, sH, tk⟩
      · have h2 : ¬ c = 32 := fun q => h2 (s1_inj.mpr q)
        walk_at "w"
        intro H1 s1
        have ge := tokEnd_ge z i
        have tk1 := tk.same s1
        have sH1 := sH.trans s1
        walk_at "w"
        refine Or.inr (Or.inr ⟨z, _, c, rfl, rfl, U.sz (by omega), U.atN _ rfl hc, ?_⟩)
        walk_at "w"
        have bad : (tokEnd z i = i ∨ (cl && isLt c) = true) → Q (.int (i : Int)) H1 := fun hb => by
          rw [lexF_bad hc h2 hb, List.append_nil] at el
          refine k _ _ sH1 ?_
          unfold dueV
          rw [el]
        cases cl with
        | false =>
          walk_at "w"
          refine U.ifDi (fun h3 => ?_) (fun h3 => ?_)
          · walk_at "w"
            exact bad (.inl (by omega))
          · have h3' : ¬ ((tokEnd z i : Nat) : Int) = (i : Int) := h3
            rw [lexF_go hc h2 (by rintro (q | q); omega; cases q)] at el
            walk_at "w"
            obtain ⟨ts, q1, q2, q3⟩ := tk1
            walk_at "w"
            intro t nt
            have q1' := U.same_new (o := HO.tup [V.str (cutS z (some (i : Int)) (some ((tokEnd z i : Nat) : Int))), V.int (i : Int)]) nt _ _ q1
            have tk3 := Toks.push (z := z) q1' (Paired.mapF q2 fun a b q => U.same_new nt _ _ q) q3 (s := (i, tokEnd z i)) upd_same
            have sH3 := U.Same.but (sH1.trans (U.same_new (o := HO.tup [V.str (cutS z (some (i : Int)) (some ((tokEnd z i : Nat) : Int))), V.int (i : Int)]) nt)) (U.SameBut.upd (U.SameBut.refl p _) (o := HO.lst (ts.map V.ref ++ [V.ref t]))) np
            walk_at "w"
            refine ⟨tokEnd z i, isLt c || isQ c, acc ++ [(i, tokEnd z i)], some (.int ((tokEnd z i : Nat) : Int)), some (.bl (!isSg c)), some (.bl false), by omega, ?_, ?_, ?_, sH3, tk3⟩
            · rw [List.length_append, List.length_singleton]
              omega
            · rw [el, List.append_assoc] <;> rfl
            · rw [← long_is] <;> rfl
        | true =>
          walk_at "w"
          refine Or.inr (Or.inr ⟨z, _, c, rfl, rfl, U.sz (by omega), U.atN _ rfl hc, ?_⟩)
          walk_at "w"
          refine U.ifDi (fun h3 => ?_) (fun h3 => ?_)
          · walk_at "w"
            exact bad (.inl (by omega))
          · have h3' : ¬ ((tokEnd z i : Nat) : Int) = (i : Int) := h3
            have hg : (!decide (c ∈ (Str.ofString "(){}[]<>=,;:.|+-*/@^_'$").cps.toList)) = isLt c := by
              have e := mem_sq c
              unfold memB at e
              rw [e, Bool.not_or] <;> rfl
            walk_at "w"
            refine U.ifB (isLt c) hg (U.ifBl (fun h4 => ?_) (fun h4 => ?_))
            · walk_at "w"
              exact bad (.inr (by rw [h4] <;> rfl))
            · have hgf := hg.trans h4
              rw [lexF_go hc h2 (by rintro (q | q); omega; rw [h4] at q; cases q)] at el
              walk_at "w"
              obtain ⟨ts, q1, q2, q3⟩ := tk1
              walk_at "w"
              intro t nt
              have q1' := U.same_new (o := HO.tup [V.str (cutS z (some (i : Int)) (some ((tokEnd z i : Nat) : Int))), V.int (i : Int)]) nt _ _ q1
              have tk3 := Toks.push (z := z) q1' (Paired.mapF q2 fun a b q => U.same_new nt _ _ q) q3 (s := (i, tokEnd z i)) upd_same
              have sH3 := U.Same.but (sH1.trans (U.same_new (o := HO.tup [V.str (cutS z (some (i : Int)) (some ((tokEnd z i : Nat) : Int))), V.int (i : Int)]) nt)) (U.SameBut.upd (U.SameBut.refl p _) (o := HO.lst (ts.map V.ref ++ [V.ref t]))) np
              walk_at "w"
              refine ⟨tokEnd z i, isLt c || isQ c, acc ++ [(i, tokEnd z i)], some (.int ((tokEnd z i : Nat) : Int)), some (.bl (!isSg c)), some (.bl (!decide (c ∈ (Str.ofString "(){}[]<>=,;:.|+-*/@^_'$").cps.toList))), by omega, ?_, ?_, ?_, sH3, tk3⟩
              · rw [List.length_append, List.length_singleton]
                omega
              · rw [el, List.append_assoc] <;> rfl
              · rw [← long_is] <;> rfl
    · walk_at "w"
      rw [lexF_end (by omega), List.append_nil] at el
      refine k _ _ sH ?_
      unfold dueV
      rw [el]
      exact ⟨p, rfl, np, tk⟩
end
section
variable {P : Program} {w : World} {K : PySem.W.Frag} {mg : Str → Option Value} {base : Heap} {A : Ad}
def asc (z : Str) : Prop := ∀ c ∈ z.cps.toList, c < 128
def ascB (z : Str) : Bool := z.cps.toList.all fun c => decide (c < 128)
theorem asc_of {z : Str} (h : ascB z = true) : asc z := fun c hc => of_decide_eq_true (List.all_eq_true.mp h c hc)
theorem asc_app {x y : Str} (hx : asc x) (hy : asc y) : asc (x ++ y) := fun c hc => by
  have e : (x ++ y).cps.toList = x.cps.toList ++ y.cps.toList := by
    show (x.cps ++ y.cps).toList = _
    simp
  rw [e] at hc
  rcases List.mem_append.mp hc with h | h
  · exact hx c h
  · exact hy c h
theorem len_app (x y : Str) : (x ++ y).length = x.length + y.length := by
  show (x.cps ++ y.cps).size = _
  rw [Array.size_append] <;> rfl
theorem asc_cut {x : Str} (hx : asc x) (lo hi : Option Int) : asc (cutS x lo hi) := fun c hc => by
  unfold cutS at hc
  exact hx c (List.mem_of_mem_drop (List.mem_of_mem_take hc))
/-- a written list of short texts, asked at a place -/
def wordsOk (ss : List Str) : Bool := ss.all fun s => ascB s && decide (s.length ≤ 10)
theorem words_at {ss : List Str} (h : wordsOk ss = true) {d : Int} (h0 : 0 ≤ d) (h1 : d < (ss.length : Int)) : ∃ s : Str, atI (ss.map V.str) d = some (V.str s) ∧ asc s ∧ s.length ≤ 10 := by
  obtain ⟨j, rfl⟩ := Int.eq_ofNat_of_zero_le h0
  have hj : j < ss.length := by omega
  refine ⟨ss[j], atI_nat (by rw [List.getElem?_map, List.getElem?_eq_getElem hj] <;> rfl), ?_⟩
  have q := List.all_eq_true.mp h _ (List.getElem_mem hj)
  rw [Bool.and_eq_true] at q
  exact ⟨asc_of q.1, of_decide_eq_true q.2⟩
abbrev someL : List Str := ["x", "ab12", "fn", "T", "Abcdef", "0", "12", "300", "'k", "$x", "->", "-", ">", "(", "}", "@", "^", "_", "in"]
abbrev oddL : List Str := ["abcdefg", "x0", "x1234", "007", "Abcdefg", "'", "$", "'1", "!", "?", "\n", "#", "'fn", "$in", "9a", "T1"]
def spText : Sp := fun vs H Q _ => ∃ (p : Addr) (n : Nat), vs = [.ref p] ∧ BoxAt H p n ∧ n ≤ 1000 ∧ ∀ (z : Str) (H' : Hp), z.length ≤ 10000 → asc z → BoxAt H' p (n + 100) → SameBut p H H' → Q (.str z) H'
theorem ok_law_text (T : Top w K mg A) : FnOk P w K mg base CX0 2 A.a_law_text A.fd_law_text ["box"] spText := by
  refine T.F_law_text.ok sc_law_text (fun vs H Q E h => ?_) (fun cdv A outer s H vs Q E hr h => ?_)
  · obtain ⟨p, n, rfl, _⟩ := h
    rfl
  · obtain ⟨p, n, rfl, hb, hn, k⟩ := h
    refine ⟨_, (pss_cons (ps_set (i := 1) sc_law_text.nd rfl (Or.inl rfl) (pe_lst (pa_cons pe_str (pa_cons pe_str (pa_cons pe_str (pa_cons pe_str (pa_cons pe_str (pa_cons pe_str (pa_cons pe_str (pa_cons pe_str (pa_cons pe_str (pa_cons pe_str (pa_cons pe_str (pa_cons pe_str (pa_cons pe_str (pa_cons pe_str (pa_cons pe_str (pa_cons pe_str (pa_cons pe_str (pa_cons pe_str pa_nil))))))))))))))))))))
    (pss_cons (ps_expr (pe_bm PySem.F.plainAttrs_list PySem.F.slot_list_append PySem.F.type_list_append mt_append (pv 1) (pa_cons pe_str pa_nil)))
    (pss_cons (ps_set (i := 2) sc_law_text.nd rfl (Or.inl rfl) (pe_lst (pa_cons pe_str (pa_cons pe_str (pa_cons pe_str (pa_cons pe_str (pa_cons pe_str (pa_cons pe_str (pa_cons pe_str (pa_cons pe_str (pa_cons pe_str (pa_cons pe_str (pa_cons pe_str (pa_cons pe_str (pa_cons pe_str (pa_cons pe_str (pa_cons pe_str (pa_cons pe_str pa_nil))))))))))))))))))
    (pss_cons (ps_set (i := 3) sc_law_text.nd rfl (Or.inl rfl) (pe_ix (U.uIx (K := K) rfl) (pe_lst (pa_cons pe_str (pa_cons pe_str pa_nil))) (pe_call (ok_law_take T) (hr.mono (by decide)) rfl T.m_law_take T.F_law_take.kp T.b_law_take .nil pass0 (pa_cons (pv 0) (pa_cons pe_int pa_nil))) (fun _ _ => rfl)))
    (pss_cons (ps_for PassesOwn.never rfl (pi_range1 (by rfl) T.n_range (pa_cons (pe_op U.uAdd (pe_call (ok_law_take T) (hr.mono (by decide)) rfl T.m_law_take T.F_law_take.kp T.b_law_take .nil pass0 (pa_cons (pv 0) (pa_cons pe_int pa_nil))) (pe_op U.uMul pe_int (pe_callTy call_int1 (by rfl) T.n_int (by decide +kernel) (pa_cons (pe_cmpR (U.uEq (K := K) rfl hr.units) (pe_call (ok_law_take T) (hr.mono (by decide)) rfl T.m_law_take T.F_law_take.kp T.b_law_take .nil pass0 (pa_cons (pv 0) (pa_cons pe_int pa_nil))) pe_int (nomark _)) pa_nil)))) pa_nil)) (pg_name (i := 4) sc_law_text.nd rfl (Or.inl rfl)) (pss_cons (ps_set (i := 3) sc_law_text.nd rfl (Or.inl rfl) (pe_op U.uAdd (pe_op U.uAdd (pv 3) (pe_ix (U.uIx (K := K) rfl) (pv 1) (pe_call (ok_law_take T) (hr.mono (by decide)) rfl T.m_law_take T.F_law_take.kp T.b_law_take .nil pass0 (pa_cons (pv 0) (pa_cons pe_int pa_nil))) (fun _ _ => rfl))) (pe_ix (U.uIx (K := K) rfl) (pe_lst (pa_cons pe_str (pa_cons pe_str (pa_cons pe_str (pa_cons pe_str pa_nil))))) (pe_call (ok_law_take T) (hr.mono (by decide)) rfl T.m_law_take T.F_law_take.kp T.b_law_take .nil pass0 (pa_cons (pv 0) (pa_cons pe_int pa_nil))) (fun _ _ => rfl))))
    (pss_one (ps_if (PW.pt (pw_and (pt_cmpR U.uGt (pe_callB (U.uLen (K := K) rfl) (by rfl) T.n_len (by decide +kernel) (pa_cons (pv 3) pa_nil)) pe_int (nomark _)) (pw_and1 (pt_cmpR (U.uEq (K := K) rfl hr.units) (pe_lc (own := [("sign", 6)]) rfl sc_law_text.nd (pi_str (pe_slice (U.uSl (K := K) rfl) (pv 3) (po_some (pe_un un_neg pe_int)) po_none)) (blkOk_by (own := [("sign", 6)]) (N := nm_law_text) (sc := defScope s_law_text) (by decide +kernel)) (fun _ _ _ _ _ => (pg_name (i := 6) sc_law_text.nd rfl (Or.inl rfl))) (fun _ _ _ _ _ => pts_one (pt_cmpR (U.uNotIn (K := K) rfl) (pv 6) pe_str rfl)) (fun _ _ _ _ _ => (pv 6))) (pe_lst pa_nil) (nomark _))))) (pss_one (ps_set (i := 3) sc_law_text.nd rfl (Or.inl rfl) (pe_op U.uAdd (pv 3) pe_str))) pss_nil))))
    (pss_cons (ps_if (pt_cmpR (U.uEq (K := K) rfl hr.units) (pe_call (ok_law_take T) (hr.mono (by decide)) rfl T.m_law_take T.F_law_take.kp T.b_law_take .nil pass0 (pa_cons (pv 0) (pa_cons pe_int pa_nil))) pe_int (nomark _)) (pss_cons (ps_set (i := 5) sc_law_text.nd rfl (Or.inl rfl) (pe_call (ok_law_take T) (hr.mono (by decide)) rfl T.m_law_take T.F_law_take.kp T.b_law_take .nil pass0 (pa_cons (pv 0) (pa_cons (pe_op U.uAdd (pe_callB (U.uLen (K := K) rfl) (by rfl) T.n_len (by decide +kernel) (pa_cons (pv 3) pa_nil)) pe_int) pa_nil))))
    (pss_one (ps_set (i := 3) sc_law_text.nd rfl (Or.inl rfl) (pe_op U.uAdd (pe_op U.uAdd (pe_slice (U.uSl (K := K) rfl) (pv 3) po_none (po_some (pv 5))) (pe_ix (U.uIx (K := K) rfl) (pv 2) (pe_call (ok_law_take T) (hr.mono (by decide)) rfl T.m_law_take T.F_law_take.kp T.b_law_take .nil pass0 (pa_cons (pv 0) (pa_cons pe_int pa_nil))) (fun _ _ => rfl))) (pe_slice (U.uSl (K := K) rfl) (pv 3) (po_some (pv 5)) po_none))))) pss_nil)
    (pss_one (ps_ret (pv 3))))))))), ?_⟩
    walk_at "w"
    intro a na
    generalize hA : upd H a _ = H1
    obtain ⟨sA, gA⟩ := U.newF na hA
    walk_at "w"
    generalize hB : upd H1 a _ = H2
    obtain ⟨gB, sB⟩ := U.updF hB
    have sB := U.Same.but sA sB na
    intro b nb
    generalize hC : upd H2 b _ = H3
    obtain ⟨sC, gC⟩ := U.newF nb hC
    have gA := sC _ _ gB
    have sC := sB.trans sC
    have bx := hb.same sC
    have nap : a ≠ p := by
      obtain ⟨o, ho⟩ := hb.some
      exact (ne_of_none ho na).symm
    have nbp : b ≠ p := by
      obtain ⟨o, ho⟩ := (hb.same sB).some
      exact (ne_of_none ho nb).symm
    have gA : H3 a = some (.lst (someL.map V.str)) := gA
    have gC : H3 b = some (.lst (oddL.map V.str)) := gC
    clear hA hB hC gB na nb sA sB
    walk_at "w"
    intro c nc
    generalize hD : upd H3 c _ = H4
    obtain ⟨sD, gD⟩ := U.newF nc hD
    have ncp : c ≠ p := by
      obtain ⟨o, ho⟩ := bx.some
      exact (ne_of_none ho nc).symm
    walk_at "w"
    refine ⟨p, 2, n, rfl, bx.same sD, by omega, by decide, by decide, fun d H5 d0 d1 bx5 s5 => ?_⟩
    obtain ⟨t, ht, ta, tl⟩ := words_at (ss := [" ", ""]) (by decide +kernel) d0 d1
    refine Or.inl ⟨_, _, _, _, rfl, rfl, SqL.of (s5 _ _ ncp gD), ht, ?_⟩
    have sX : U.SameBut p H H5 := (U.SameBut.of (sC.trans sD)).trans s5
    have gA := s5 _ _ nap (sD _ _ gA)
    have gC := s5 _ _ nbp (sD _ _ gC)
    clear hD gD sD s5 ht
    walk_at "w"
    refine ⟨p, 9, n + 1, rfl, bx5, by omega, by decide, by decide, fun e H6 e0 e1 bx6 s6 => ?_⟩
    walk_at "w"
    refine ⟨p, 3, n + 1 + 1, rfl, bx6, by omega, by decide, by decide, fun f H7 f0 f1 bx7 s7 => ?_⟩
    walk_at "w"
    have sX := (sX.trans s6).trans s7
    have gA := s7 _ _ nap (s6 _ _ nap gA)
    have gC := s7 _ _ nbp (s6 _ _ nbp gC)
    refine U.forR (fun i σ H' => ∃ (z : Str) (kv sv : Option V), σ = [some (.ref p), some (.ref a), some (.ref b), some (.str z), kv, none, sv] ∧ U.SameBut p H H' ∧ H' a = some (.lst (someL.map V.str)) ∧ H' b = some (.lst (oddL.map V.str)) ∧
      U.BoxAt H' p (n + 3 + 2 * i) ∧ z.length ≤ 10 + 30 * i ∧ asc z) ⟨t, none, none, rfl, sX, gA, gC, bx7, by omega, ta⟩ ?_ ?_
    · rintro i σ H' hi ⟨z, kv, sv, rfl, sX, gA, gC, bx, hl, hz⟩
      have hi : i < 17 := by
        refine Nat.lt_of_lt_of_le hi ?_
        split <;> omega
      walk_at "w"
      refine ⟨p, 19, n + 3 + 2 * i, rfl, bx, by omega, by decide, by decide, fun d H5 d0 d1 bx5 s5 => ?_⟩
      obtain ⟨t, ht, ta, tl⟩ := words_at (ss := someL) (by decide +kernel) d0 d1
      refine Or.inl ⟨_, _, _, _, rfl, rfl, SqL.of (s5 _ _ nap gA), ht, ?_⟩
      refine Or.inr (Or.inl ⟨_, _, rfl, rfl, U.sz (by omega), ?_⟩)
      walk_at "w"
      intro c nc
      generalize hD : upd H5 c _ = H4
      obtain ⟨sD, gD⟩ := U.newF nc hD
      have ncp : c ≠ p := by
        obtain ⟨o, ho⟩ := bx5.some
        exact (ne_of_none ho nc).symm
      walk_at "w"
      refine ⟨p, 4, _, rfl, bx5.same sD, by omega, by decide, by decide, fun d H6 d0 d1 bx6 s6 => ?_⟩
      obtain ⟨u, hu, ua, ul⟩ := words_at (ss := ["", " ", " ", "  "]) (by decide +kernel) d0 d1
      refine Or.inl ⟨_, _, _, _, rfl, rfl, SqL.of (s6 _ _ ncp gD), hu, ?_⟩
      have sX := ((sX.trans s5).trans (U.SameBut.of sD)).trans s6
      have gA := s6 _ _ nap (sD _ _ (s5 _ _ nap gA))
      have gC := s6 _ _ nbp (sD _ _ (s5 _ _ nbp gC))
      have l1 := len_app z t
      have l2 := len_app (z ++ t) u
      have a2 := asc_app (asc_app hz ta) ua
      refine Or.inr (Or.inl ⟨_, _, rfl, rfl, U.sz (by omega), ?_⟩)
      generalize hv : z ++ t ++ u = v at *
      walk_at "w"
      have done : ∀ (v' : Str) (sv : Option V) H7, Same H6 H7 → v'.length ≤ v.length + 1 → asc v' → ∃ (z : Str) (kv sv' : Option V), ([some (.ref p), some (.ref a), some (.ref b), some (.str v'), some (.int (i : Int)), none, sv] : St) = [some (.ref p), some (.ref a), some (.ref b), some (.str z), kv, none, sv'] ∧ U.SameBut p H H7 ∧ H7 a = some (.lst (someL.map V.str)) ∧ H7 b = some (.lst (oddL.map V.str)) ∧
          U.BoxAt H7 p (n + 3 + 2 * (i + 1)) ∧ z.length ≤ 10 + 30 * (i + 1) ∧ asc z := fun v' sv H7 s7 h7 a7 =>
        ⟨v', _, sv, rfl, sX.trans (U.SameBut.of s7), s7 _ _ gA, s7 _ _ gC, (bx6.mono (by omega)).same s7, by omega, a7⟩
      refine U.ifD (fun h1 => ?_) (fun h1 => ?_)
      · walk_at "w"
        intro D nD
        refine U.lcStr (fun j H7 => Same H6 H7 ∧ ∃ ys : List Str, H7 D = some (.lst (ys.map V.str)) ∧ ys.length ≤ j ∧ ∀ y ∈ ys, PyData.strOk y = true) ⟨U.same_new nD, [], upd_same, Nat.le_refl _, fun y hy => nomatch hy⟩ ?_ ?_
        · rintro j x H7 hx ⟨s7, ys, hD, hy, hok⟩
          refine ⟨rfl, ?_⟩
          walk_at "w"
          refine U.ifBl (fun h2 => ?_) (fun h2 => ?_)
          · walk_at "w"
            have hj := (List.getElem?_eq_some_iff.mp hx).1
            have hv24 := cutS_length v (some (-24)) none
            rw [← U.zlen] at hj
            have hok' : ∀ y ∈ ys ++ [(⟨#[x]⟩ : Str)], PyData.strOk y = true := fun y hy => by
              rcases List.mem_append.mp hy with h | h
              · exact hok y h
              · rw [List.mem_singleton.mp h]
                have hx' : x < 128 := asc_cut a2 (some (-24)) none x (List.mem_of_getElem? hx)
                show (#[x] : Array Nat).all (· < 0x110000) = true
                simp
                omega
            exact ⟨_, hD, U.szl (by rw [List.length_map]; omega), fun q o hq => by rw [upd_ne (ne_of_none hq nD)]; exact s7 q o hq, ys ++ [⟨#[x]⟩], by rw [upd_same, List.map_append] <;> rfl, by rw [List.length_append, List.length_singleton]; omega, hok'⟩
          · exact ⟨s7, ys, hD, by omega, hok⟩
        · rintro H7 ⟨s7, ys, hD, hy, hok⟩
          walk_at "w"
          intro q nq
          refine Or.inr ⟨.list (U.strD ys), .list [], .lst (SqL.of (by rw [upd_ne (ne_of_none hD nq)]; exact hD)) (U.dpStrs ys), .lst (SqL.of upd_same) .nil, U.shStrs ys hok, rfl, ?_⟩
          have s8 := s7.trans (U.same_new (o := HO.lst []) nq)
          walk_at "w"
          refine U.ifBl (fun h2 => ?_) (fun h2 => ?_)
          · walk_at "w"
            refine Or.inr (Or.inl ⟨_, _, rfl, rfl, U.sz (by show v.length + 1 ≤ 100000; omega), ?_⟩)
            exact done _ sv _ s8 (by rw [len_app] <;> exact Nat.le_refl _) (asc_app a2 (asc_of (by decide +kernel)))
          · walk_at "w"
            exact done v sv _ s8 (by omega) a2
      · walk_at "w"
        exact done v sv _ (Same.refl _) (by omega) a2
    · rintro σ H' ⟨z, kv, sv, rfl, sX, gA, gC, bx, hl, hz⟩
      have he : (e + 8 * if decide (V.int f = V.int 0) = true then 1 else 0).toNat ≤ 17 := by
        split <;> omega
      generalize (e + 8 * if decide (V.int f = V.int 0) = true then 1 else 0).toNat = N at *
      walk_at "w"
      refine ⟨p, 2, n + 3 + 2 * N, rfl, bx, by omega, by decide, by decide, fun d H5 d0 d1 bx5 s5 => ?_⟩
      walk_at "w"
      have sX := sX.trans s5
      have gC := s5 _ _ nbp gC
      refine U.ifDi (fun h1 => ?_) (fun h1 => ?_)
      · walk_at "w"
        refine ⟨p, (z.length : Int) + 1, _, rfl, bx5, by omega, by omega, by omega, fun f2 H6 f0 f1 bx6 s6 => ?_⟩
        walk_at "w"
        refine ⟨p, 16, _, rfl, bx6, by omega, by decide, by decide, fun d2 H7 d20 d21 bx7 s7 => ?_⟩
        obtain ⟨t, ht, ta, tl⟩ := words_at (ss := oddL) (by decide +kernel) d20 d21
        have sX := (sX.trans s6).trans s7
        have c1 := cutS_length z none (some f2)
        have c2 := cutS_length z (some f2) none
        have l1 := len_app (cutS z none (some f2)) t
        have l2 := len_app (cutS z none (some f2) ++ t) (cutS z (some f2) none)
        have a2 := asc_app (asc_app (asc_cut hz none (some f2)) ta) (asc_cut hz (some f2) none)
        refine Or.inl ⟨_, _, _, _, rfl, rfl, SqL.of (s7 _ _ nbp (s6 _ _ nbp gC)), ht, ?_⟩
        refine Or.inr (Or.inl ⟨_, _, rfl, rfl, U.sz (by omega), ?_⟩)
        walk_at "w"
        refine Or.inr (Or.inl ⟨_, _, rfl, rfl, U.sz (by omega), ?_⟩)
        walk_at "w"
        exact k _ _ (by omega) a2 (bx7.mono (by omega)) sX
      · walk_at "w"
        exact k _ _ (by omega) hz (bx5.mono (by omega)) sX
end
section
variable {P : Program} {w : World} {K : PySem.W.Frag} {mg : Str → Option Value} {base : Heap} {A : Ad}
theorem ok_law_told (T : Top w K mg A) : FnOk P w K mg base CX0 6 A.a_law_told A.fd_law_told ["text"] spDue := by
  refine T.F_law_told.ok sc_law_told (fun vs H Q E h => ?_) (fun cdv A' outer s H vs Q E hr h => ?_)
  · obtain ⟨z, rfl, _⟩ := h
    rfl
  · obtain ⟨z, rfl, hz, k⟩ := h
    refine ⟨_, (pss_one (ps_try_as (i := 1) (tb := fun W => tRet (tCallS (spTokens A.c_BadText) (WE W) (tCons (tVar 0) tNil))) (ts := fun a cls d => tRet (tXf a cls d A.c_BadText "at" (tVar 1))) (Wout := fun _ _ _ _ => False) rfl rfl sc_law_told.nd rfl rfl ⟨rfl, by decide, Or.inl T.m_BadText⟩ takes0 (fun W pn xe tk _ => (pss_one (ps_ret (by exact (pe_callS (ok_tokens T) (hr.mono (by decide)) rfl T.m_tokens T.F_tokens.kp T.b_tokens (fun σ => passAt tk σ) (by exact (pa_cons (pv 0) pa_nil))))))) (fun a oe cls d pn hz hf => (pss_one (ps_ret (pe_xf T.xf_BadText T.no_BadText_at hz hf (pv 1))))))), ?_⟩
    walk_at "w"
    refine ⟨fun n e d H1 s1 hd => ?_, fun e p H1 s1 np tk => ?_⟩
    · refine ⟨true, T.te_BadText, fun _ a na => ?_, fun q => nomatch q⟩
      walk_at "w"
      refine ⟨rfl, rfl, d, _, _, rfl, hd, rfl, ?_⟩
      refine k _ _ s1 ?_
      unfold dueV
      rw [e]
    · refine k _ _ s1 ?_
      unfold dueV
      rw [e]
      exact ⟨p, rfl, np, tk⟩
/-- the two lists are equal data -/
def tokD (z : Str) (s : Nat × Nat) : PyData := .tuple [.str (cutS z (some (s.1 : Int)) (some (s.2 : Int))), .int (s.1 : Int)]
theorem toksD {z : Str} {H : Hp} : ∀ {ts : List Addr} {acc : List (Nat × Nat)}, Paired (tokIs z H) ts acc → DpAll K H (ts.map V.ref) (acc.map (tokD z))
  | _, _, .nil => .nil
  | _, _, .cons r t => .cons (.tup (SqT.of r) (.cons (.str _) (.cons (.int _) .nil))) (toksD t)
theorem asc_ok {z : Str} (h : asc z) : PyData.strOk z = true := by
  show z.cps.all (· < 0x110000) = true
  rw [Array.all_eq_true]
  intro i hi
  have q := h _ (List.mem_of_getElem? (show z.cps.toList[i]? = some z.cps[i] by simp [hi]))
  simp only [decide_eq_true_eq]
  omega
theorem toks_can {z : Str} (h : asc z) : ∀ acc : List (Nat × Nat), PyData.canLayAll0 (acc.map (tokD z)) = true ∧ PyData.depthAll (acc.map (tokD z)) ≤ 1
  | [] => ⟨rfl, Nat.zero_le 1⟩
  | s :: r => by
    obtain ⟨h1, h2⟩ := toks_can h r
    constructor
    · show ((PyData.strOk _ && (true && true)) && PyData.canLayAll0 (r.map (tokD z))) = true
      rw [h1, asc_ok (asc_cut h _ _)] <;> rfl
    · show max (max 0 (max 0 0) + 1) (PyData.depthAll (r.map (tokD z))) ≤ 1
      exact Nat.max_le.mpr ⟨by decide, h2⟩
theorem toks_sh {z : Str} (h : asc z) (acc : List (Nat × Nat)) : SeqAt.shaped (.list (acc.map (tokD z))) = true := by
  obtain ⟨h1, h2⟩ := toks_can h acc
  show (PyData.canLayAll0 _ && decide (PyData.depthAll (acc.map (tokD z)) + 1 ≤ 64)) = true
  rw [h1, decide_eq_true (by omega)] <;> rfl
theorem lexF_len (z : Str) : ∀ (m i : Nat) (cl : Bool), (lexF z m i cl).1.length ≤ z.length - i
  | 0, _, _ => Nat.zero_le _
  | m + 1, i, cl => by
    have ez := U.zlen z
    by_cases hi : i < z.length
    · obtain ⟨c, hc⟩ : ∃ c, z.cps.toList[i]? = some c := ⟨_, List.getElem?_eq_getElem (by omega)⟩
      by_cases h : c = 32
      · rw [lexF_sp hc h]
        have := lexF_len z m (i + 1) false
        omega
      · by_cases hb : tokEnd z i = i ∨ (cl && isLt c) = true
        · rw [lexF_bad hc h hb]
          exact Nat.zero_le _
        · rw [lexF_go hc h hb]
          have := lexF_len z m (tokEnd z i) (isLt c || isQ c)
          have := tokEnd_ge z i
          have : ¬ tokEnd z i = i := fun q => hb (.inl q)
          rw [List.length_cons]
          omega
    · rw [lexF_end (by omega)]
      exact Nat.zero_le _
def spLaw (K : PySem.W.Frag) : Sp := fun vs H Q _ => ∃ (a : Addr) (ns : List Int), vs = [.ref a] ∧ SqL K H a (ns.map V.int) ∧ ns.length ≤ 63 ∧ ∀ H', Q (.bl true) H'
theorem ok_law (T : Top w K mg A) : FnOk P w K mg base CX0 7 A.a_law A.fd_law ["script"] (spLaw K) := by
  refine T.F_law.ok sc_law (fun vs H Q E h => ?_) (fun cdv A outer s H vs Q E hr h => ?_)
  · obtain ⟨a, ns, rfl, _⟩ := h
    rfl
  · obtain ⟨a, ns, rfl, hS, hlen, k⟩ := h
    refine ⟨_, (pss_cons (ps_for PassesOwn.never rfl (pi_range1 (by rfl) T.n_range (pa_cons (pe_callB (call_max2 rfl) (by rfl) T.n_max (by decide +kernel) (pa_cons pe_int (pa_cons (pe_callB (call_min2 rfl) (by rfl) T.n_min (by decide +kernel) (pa_cons pe_int (pa_cons (pe_callB (U.uLen (K := K) rfl) (by rfl) T.n_len (by decide +kernel) (pa_cons (pv 0) pa_nil)) pa_nil))) pa_nil))) pa_nil)) (pg_name (i := 1) sc_law.nd rfl (Or.inl rfl)) (pss_cons (ps_set (i := 2) sc_law.nd rfl (Or.inl rfl) (pe_call (ok_law_box T) (hr.mono (by decide)) rfl T.m_law_box T.F_law_box.kp T.b_law_box .nil pass0 (pa_cons (pe_call (ok_law_cell T) (hr.mono (by decide)) rfl T.m_law_cell T.F_law_cell.kp T.b_law_cell .nil pass0 (pa_cons (pv 0) (pa_cons (pv 1) pa_nil))) pa_nil)))
    (pss_one (ps_for PassesOwn.never rfl (pi_range1 (by rfl) T.n_range (pa_cons pe_int pa_nil)) (pg_name (i := 3) sc_law.nd rfl (Or.inl rfl)) (pss_cons (ps_set (i := 4) sc_law.nd rfl (Or.inl rfl) (pe_call (ok_law_text T) (hr.mono (by decide)) rfl T.m_law_text T.F_law_text.kp T.b_law_text .nil pass0 (pa_cons (pv 2) pa_nil)))
    (pss_cons (ps_set (i := 5) sc_law.nd rfl (Or.inl rfl) (pe_call (ok_law_due T) (hr.mono (by decide)) rfl T.m_law_due T.F_law_due.kp T.b_law_due .nil pass0 (pa_cons (pv 4) pa_nil)))
    (pss_cons (ps_set (i := 6) sc_law.nd rfl (Or.inl rfl) (pe_call (ok_law_told T) (hr.mono (by decide)) rfl T.m_law_told T.F_law_told.kp T.b_law_told .nil pass0 (pa_cons (pv 4) pa_nil)))
    (pss_cons (ps_if (PW.pt (pw_or (pt_cmpR (U.uNe (K := K) rfl hr.units) (pv 6) (pv 5) (nomark _)) (pw_or1 (pt_val (pe_callB call_isi (by rfl) T.n_isinstance (by decide +kernel) (pa_cons (pv 6) (pa_cons (pe_bltn (v := .ty "bool") (by rfl) T.n_bool (by decide +kernel) rfl) pa_nil))))))) (pss_one (ps_ret pe_bl)) pss_nil)
    (pss_one (ps_if (pt_val (pe_callB call_isi (by rfl) T.n_isinstance (by decide +kernel) (pa_cons (pv 6) (pa_cons (pe_bltn (v := .ty "list") (by rfl) T.n_list (by decide +kernel) rfl) pa_nil)))) (pss_cons (ps_expr (pe_bm PySem.F.plainAttrs_list PySem.F.slot_list_append PySem.F.type_list_append mt_append (pv 6) (pa_cons pe_str pa_nil)))
    (pss_one (ps_if (pt_cmpR (U.uNe (K := K) rfl hr.units) (pe_call (ok_tokens T) (hr.mono (by decide)) rfl T.m_tokens T.F_tokens.kp T.b_tokens .nil passL (pa_cons (pv 4) pa_nil)) (pv 5) (nomark _)) (pss_one (ps_ret pe_bl)) pss_nil))) pss_nil))))))))))
    (pss_one (ps_ret pe_bl))), ?_⟩
    walk_at "w"
    refine U.forR (fun i σ H' => ∃ v1 v2 v3 v4 v5 v6 : Option V, σ = [some (.ref a), v1, v2, v3, v4, v5, v6] ∧ Same H H') ⟨_, _, _, _, _, _, rfl, Same.refl _⟩ ?_ ?_
    · rintro i σ H' hi ⟨v1, v2, v3, v4, v5, v6, rfl, sH⟩
      have hi : i < 100 := by
        refine Nat.lt_of_lt_of_le hi ?_
        rw [List.length_map]
        split <;> split <;> omega
      walk_at "w"
      refine ⟨a, ns, (i : Int), rfl, sH.seq hS, hlen, by omega, by omega, fun c H1 s1 => ?_⟩
      walk_at "w"
      intro p H2 np bx s2
      have np : H p = none := (sH.trans s1).free np
      have sH := (sH.trans s1).trans s2
      walk_at "w"
      refine U.forR (fun j σ H' => ∃ v3 v4 v5 v6 : Option V, σ = [some (.ref a), some (.int (i : Int)), some (.ref p), v3, v4, v5, v6] ∧ Same H H' ∧ U.BoxAt H' p (100 * j)) ⟨_, _, _, _, rfl, sH, bx⟩ ?_ ?_
      · clear bx s2 sH s1
        rintro j σ H4 hj ⟨v3, v4, v5, v6, rfl, sH, bx⟩
        have hj : j < 4 := hj
        walk_at "w"
        refine ⟨p, _, rfl, bx, by omega, fun z H5 hz az bx5 s5 => ?_⟩
        have sH := U.Same.but sH s5 np
        walk_at "w"
        intro v H6 s6 dv
        walk_at "w"
        intro u H7 s7 du
        have sH6 := sH.trans s6
        have sH := sH6.trans s7
        have bx6 := bx5.same s6
        have bx7 := bx6.same s7
        unfold dueV at dv du
        cases e : (lex z).2 with
        | some n =>
          rw [e] at dv du
          dsimp only at dv du
          subst dv
          subst du
          walk_at "w"
          refine U.ifB false (by simp) ?_
          walk_at "w"
          refine ⟨_, _, _, _, false, rfl, .ty _, .base (.int _), kit_ty (a := "int") (b := "bool") (by decide +kernel), ?_⟩
          walk_at "w"
          refine ⟨_, _, _, _, false, rfl, .ty _, .base (.int _), kit_ty (a := "int") (b := "list") (by decide +kernel), ?_⟩
          walk_at "w"
          exact ⟨_, _, _, _, rfl, sH, bx7.mono (by omega)⟩
        | none =>
          rw [e] at dv du
          obtain ⟨p1, rfl, np1, tk1⟩ := dv
          obtain ⟨p2, rfl, np2, tk2⟩ := du
          have dvT := tk1
          have tk1 := tk1.same s7
          obtain ⟨ts1, a1, b1, c1⟩ := id tk1
          obtain ⟨ts2, a2, b2, c2⟩ := id tk2
          have sh := toks_sh az (lex z).1
          have hln := lexF_len z (z.length + 1) 0 false
          have hln : (lex z).1.length ≤ z.length - 0 := hln
          have rfl' := SeqAt.eqv_refl _ (SeqAt.canLay_of_shaped sh)
          walk_at "w"
          refine Or.inr ⟨_, _, .lst (SqL.of a2) (toksD b2), .lst (SqL.of a1) (toksD b1), sh, sh, ?_⟩
          walk_at "w"
          refine U.ifB false (by rw [rfl'] <;> rfl) ?_
          walk_at "w"
          refine ⟨_, _, _, _, false, rfl, .ty _, .base (.lst a2), kit_ty (a := "list") (b := "bool") (by decide +kernel), ?_⟩
          walk_at "w"
          refine ⟨_, _, _, _, true, rfl, .ty _, .base (.lst a2), kit_ty (a := "list") (b := "list") (by decide +kernel), ?_⟩
          have n21 : p1 ≠ p2 := by
            obtain ⟨ts, q, _⟩ := id dvT
            exact ne_of_none q np2
          have np2p : p ≠ p2 := by
            obtain ⟨o, ho⟩ := bx6.some
            exact ne_of_none ho np2
          walk_at "w"
          generalize hU : upd H7 p2 _ = H8
          obtain ⟨g8, s8⟩ := U.updF hU
          have sH8 : Same H H8 := fun b o hb => by
            have nb : b ≠ p2 := ne_of_none (sH6 b o hb) np2
            exact s8 _ _ nb (sH b o hb)
          have bx8 : U.BoxAt H8 p (100 * j + 100) := by
            obtain ⟨x0, x1, x2, hx, hy⟩ := bx7
            exact ⟨x0, x1, x2, s8 _ _ np2p hx, hy⟩
          have a8 := s8 _ _ n21 a1
          have b8 : Paired (tokIs z H8) ts1 (lex z).1 := Paired.mapF b1 fun t s q => s8 _ _ (fun ee => by rw [ee] at q; exact nomatch (q.symm.trans a2)) q
          walk_at "w"
          refine ⟨fun n e' => (by rw [e] at e'; cases e'), fun _ p3 H9 s9 np3 tk3 => ?_⟩
          obtain ⟨ts3, a3, b3, c3⟩ := tk3
          walk_at "w"
          refine Or.inr ⟨_, _, .lst (SqL.of a3) (toksD b3), .lst (SqL.of (s9 _ _ a8)) (toksD (Paired.mapF b8 fun t s q => s9 _ _ q)), sh, sh, ?_⟩
          walk_at "w"
          refine U.ifB false (by rw [rfl'] <;> rfl) ?_
          walk_at "w"
          exact ⟨_, _, _, _, rfl, sH8.trans s9, (bx8.same s9).mono (by omega)⟩
      · rintro σ H4 ⟨v3, v4, v5, v6, rfl, sH, bx⟩
        exact ⟨_, _, _, _, _, _, rfl, sH⟩
    · rintro σ H' ⟨v1, v2, v3, v4, v5, v6, rfl, sH⟩
      walk_at "w"
      exact k _
end
set_option maxHeartbeats 8000000 in
theorem all_mk {l : PySem.W.OpenLaw} {w : World} {K : PySem.W.Frag} {h : Heap} {mg : Str → Option Value} {fa : Addr} (X : K.In h) (G : h.Ns mainGlobals mg) (hfa : mg "law" = some (.ref fa))
    {od0 an0 od1 an1 od2 an2 od3 an3 od4 an4 od5 an5 od6 an6 od7 an7 od8 an8 od9 an9 od10 an10 od11 an11 od12 an12 od13 an13 od14 an14 od15 an15 od16 an16 od17 an17 : Option Addr} {sl0 sl1 sl2 sl3 sl4 sl5 sl6 sl7 sl8 sl9 sl10 sl11 sl12 sl13 sl14 sl15 sl16 sl17 : Array (Option Value)} {oc0 kV0 dc0 pm0 cd0 ct0 oc1 kV1 dc1 pm1 cd1 ct1 oc2 kV2 dc2 pm2 cd2 ct2 oc3 kV3 dc3 pm3 cd3 ct3 oc4 kV4 dc4 pm4 cd4 ct4 oc5 kV5 dc5 pm5 cd5 ct5 oc6 kV6 dc6 pm6 cd6 ct6 oc7 kV7 dc7 pm7 cd7 ct7 oc8 kV8 dc8 pm8 cd8 ct8 oc9 kV9 dc9 pm9 cd9 ct9 oc10 kV10 dc10 pm10 cd10 ct10 oc11 kV11 dc11 pm11 cd11 ct11 oc12 kV12 dc12 pm12 cd12 ct12 oc13 kV13 dc13 pm13 cd13 ct13 oc14 kV14 dc14 pm14 cd14 ct14 oc15 kV15 dc15 pm15 cd15 ct15 oc16 kV16 dc16 pm16 cd16 ct16 oc17 kV17 dc17 pm17 cd17 ct17 : Value}
    {f0 f1 f2 f3 f4 f5 f6 f7 f8 f9 f10 f11 f12 f13 f14 f15 f16 f17 C_KindError C_BadText : Addr}
    (aC_KindError : PySem.W.nsIn K mainGlobals "KindError" = some (some (.ref C_KindError)))
    (aC_BadText : PySem.W.nsIn K mainGlobals "BadText" = some (some (.ref C_BadText)))
    (a0 : PySem.W.findIn K (.ref C_BadText) "__init__" = some (some (.ref f0)))
    (l0 : K.lookup f0 = some ⟨oc0, od0, .func (PySem.W.fnOf "__init__" "BadText.__init__" (defArgs s_BadText_init) (defBody s_BadText_init) (defScope s_BadText_init) .none kV0 dc0 pm0 an0 cd0 ct0), sl0⟩)
    (e0 : PySem.W.codeIn K cd0 "BadText.__init__" = true)
    (k0 : PySem.W.keepIn K (.ref f0) = true)
    (a1 : PySem.W.nsIn K mainGlobals "run_end" = some (some (.ref f1)))
    (l1 : K.lookup f1 = some ⟨oc1, od1, .func (PySem.W.fnOf "run_end" "run_end" (defArgs s_run_end) (defBody s_run_end) (defScope s_run_end) .none kV1 dc1 pm1 an1 cd1 ct1), sl1⟩)
    (e1 : PySem.W.codeIn K cd1 "run_end" = true)
    (k1 : PySem.W.keepIn K (.ref f1) = true)
    (a2 : PySem.W.nsIn K mainGlobals "word_end" = some (some (.ref f2)))
    (l2 : K.lookup f2 = some ⟨oc2, od2, .func (PySem.W.fnOf "word_end" "word_end" (defArgs s_word_end) (defBody s_word_end) (defScope s_word_end) .none kV2 dc2 pm2 an2 cd2 ct2), sl2⟩)
    (e2 : PySem.W.codeIn K cd2 "word_end" = true)
    (k2 : PySem.W.keepIn K (.ref f2) = true)
    (a3 : PySem.W.nsIn K mainGlobals "tag_end" = some (some (.ref f3)))
    (l3 : K.lookup f3 = some ⟨oc3, od3, .func (PySem.W.fnOf "tag_end" "tag_end" (defArgs s_tag_end) (defBody s_tag_end) (defScope s_tag_end) .none kV3 dc3 pm3 an3 cd3 ct3), sl3⟩)
    (e3 : PySem.W.codeIn K cd3 "tag_end" = true)
    (k3 : PySem.W.keepIn K (.ref f3) = true)
    (a4 : PySem.W.nsIn K mainGlobals "number_end" = some (some (.ref f4)))
    (l4 : K.lookup f4 = some ⟨oc4, od4, .func (PySem.W.fnOf "number_end" "number_end" (defArgs s_number_end) (defBody s_number_end) (defScope s_number_end) .none kV4 dc4 pm4 an4 cd4 ct4), sl4⟩)
    (e4 : PySem.W.codeIn K cd4 "number_end" = true)
    (k4 : PySem.W.keepIn K (.ref f4) = true)
    (a5 : PySem.W.nsIn K mainGlobals "token_end" = some (some (.ref f5)))
    (l5 : K.lookup f5 = some ⟨oc5, od5, .func (PySem.W.fnOf "token_end" "token_end" (defArgs s_token_end) (defBody s_token_end) (defScope s_token_end) .none kV5 dc5 pm5 an5 cd5 ct5), sl5⟩)
    (e5 : PySem.W.codeIn K cd5 "token_end" = true)
    (k5 : PySem.W.keepIn K (.ref f5) = true)
    (a6 : PySem.W.nsIn K mainGlobals "cut" = some (some (.ref f6)))
    (l6 : K.lookup f6 = some ⟨oc6, od6, .func (PySem.W.fnOf "cut" "cut" (defArgs s_cut) (defBody s_cut) (defScope s_cut) .none kV6 dc6 pm6 an6 cd6 ct6), sl6⟩)
    (e6 : PySem.W.codeIn K cd6 "cut" = true)
    (k6 : PySem.W.keepIn K (.ref f6) = true)
    (a7 : PySem.W.nsIn K mainGlobals "tokens" = some (some (.ref f7)))
    (l7 : K.lookup f7 = some ⟨oc7, od7, .func (PySem.W.fnOf "tokens" "tokens" (defArgs s_tokens) (defBody s_tokens) (defScope s_tokens) .none kV7 dc7 pm7 an7 cd7 ct7), sl7⟩)
    (e7 : PySem.W.codeIn K cd7 "tokens" = true)
    (k7 : PySem.W.keepIn K (.ref f7) = true)
    (a8 : PySem.W.nsIn K mainGlobals "_law_cell" = some (some (.ref f8)))
    (l8 : K.lookup f8 = some ⟨oc8, od8, .func (PySem.W.fnOf "_law_cell" "_law_cell" (defArgs s_law_cell) (defBody s_law_cell) (defScope s_law_cell) .none kV8 dc8 pm8 an8 cd8 ct8), sl8⟩)
    (e8 : PySem.W.codeIn K cd8 "_law_cell" = true)
    (k8 : PySem.W.keepIn K (.ref f8) = true)
    (a9 : PySem.W.nsIn K mainGlobals "_law_box" = some (some (.ref f9)))
    (l9 : K.lookup f9 = some ⟨oc9, od9, .func (PySem.W.fnOf "_law_box" "_law_box" (defArgs s_law_box) (defBody s_law_box) (defScope s_law_box) .none kV9 dc9 pm9 an9 cd9 ct9), sl9⟩)
    (e9 : PySem.W.codeIn K cd9 "_law_box" = true)
    (k9 : PySem.W.keepIn K (.ref f9) = true)
    (a10 : PySem.W.nsIn K mainGlobals "_law_take" = some (some (.ref f10)))
    (l10 : K.lookup f10 = some ⟨oc10, od10, .func (PySem.W.fnOf "_law_take" "_law_take" (defArgs s_law_take) (defBody s_law_take) (defScope s_law_take) .none kV10 dc10 pm10 an10 cd10 ct10), sl10⟩)
    (e10 : PySem.W.codeIn K cd10 "_law_take" = true)
    (k10 : PySem.W.keepIn K (.ref f10) = true)
    (a11 : PySem.W.nsIn K mainGlobals "_law_run" = some (some (.ref f11)))
    (l11 : K.lookup f11 = some ⟨oc11, od11, .func (PySem.W.fnOf "_law_run" "_law_run" (defArgs s_law_run) (defBody s_law_run) (defScope s_law_run) .none kV11 dc11 pm11 an11 cd11 ct11), sl11⟩)
    (e11 : PySem.W.codeIn K cd11 "_law_run" = true)
    (k11 : PySem.W.keepIn K (.ref f11) = true)
    (a12 : PySem.W.nsIn K mainGlobals "_law_word_end" = some (some (.ref f12)))
    (l12 : K.lookup f12 = some ⟨oc12, od12, .func (PySem.W.fnOf "_law_word_end" "_law_word_end" (defArgs s_law_word_end) (defBody s_law_word_end) (defScope s_law_word_end) .none kV12 dc12 pm12 an12 cd12 ct12), sl12⟩)
    (e12 : PySem.W.codeIn K cd12 "_law_word_end" = true)
    (k12 : PySem.W.keepIn K (.ref f12) = true)
    (a13 : PySem.W.nsIn K mainGlobals "_law_one" = some (some (.ref f13)))
    (l13 : K.lookup f13 = some ⟨oc13, od13, .func (PySem.W.fnOf "_law_one" "_law_one" (defArgs s_law_one) (defBody s_law_one) (defScope s_law_one) .none kV13 dc13 pm13 an13 cd13 ct13), sl13⟩)
    (e13 : PySem.W.codeIn K cd13 "_law_one" = true)
    (k13 : PySem.W.keepIn K (.ref f13) = true)
    (a14 : PySem.W.nsIn K mainGlobals "_law_due" = some (some (.ref f14)))
    (l14 : K.lookup f14 = some ⟨oc14, od14, .func (PySem.W.fnOf "_law_due" "_law_due" (defArgs s_law_due) (defBody s_law_due) (defScope s_law_due) .none kV14 dc14 pm14 an14 cd14 ct14), sl14⟩)
    (e14 : PySem.W.codeIn K cd14 "_law_due" = true)
    (k14 : PySem.W.keepIn K (.ref f14) = true)
    (a15 : PySem.W.nsIn K mainGlobals "_law_text" = some (some (.ref f15)))
    (l15 : K.lookup f15 = some ⟨oc15, od15, .func (PySem.W.fnOf "_law_text" "_law_text" (defArgs s_law_text) (defBody s_law_text) (defScope s_law_text) .none kV15 dc15 pm15 an15 cd15 ct15), sl15⟩)
    (e15 : PySem.W.codeIn K cd15 "_law_text" = true)
    (k15 : PySem.W.keepIn K (.ref f15) = true)
    (a16 : PySem.W.nsIn K mainGlobals "_law_told" = some (some (.ref f16)))
    (l16 : K.lookup f16 = some ⟨oc16, od16, .func (PySem.W.fnOf "_law_told" "_law_told" (defArgs s_law_told) (defBody s_law_told) (defScope s_law_told) .none kV16 dc16 pm16 an16 cd16 ct16), sl16⟩)
    (e16 : PySem.W.codeIn K cd16 "_law_told" = true)
    (k16 : PySem.W.keepIn K (.ref f16) = true)
    (a17 : PySem.W.nsIn K mainGlobals "law" = some (some (.ref f17)))
    (l17 : K.lookup f17 = some ⟨oc17, od17, .func (PySem.W.fnOf "law" "law" (defArgs s_law) (defBody s_law) (defScope s_law) .none kV17 dc17 pm17 an17 cd17 ct17), sl17⟩)
    (e17 : PySem.W.codeIn K cd17 "law" = true)
    (k17 : PySem.W.keepIn K (.ref f17) = true)
    (z_bool : PySem.W.nsIn K mainGlobals "bool" = some none)
    (z_int : PySem.W.nsIn K mainGlobals "int" = some none)
    (z_isinstance : PySem.W.nsIn K mainGlobals "isinstance" = some none)
    (z_len : PySem.W.nsIn K mainGlobals "len" = some none)
    (z_list : PySem.W.nsIn K mainGlobals "list" = some none)
    (z_max : PySem.W.nsIn K mainGlobals "max" = some none)
    (z_min : PySem.W.nsIn K mainGlobals "min" = some none)
    (z_range : PySem.W.nsIn K mainGlobals "range" = some none)
    (z_sum : PySem.W.nsIn K mainGlobals "sum" = some none)
    {t_OWN_WORDS_0 t_OWN_WORDS_1 t_OWN_WORDS_2 t_OWN_WORDS_3 t_OWN_WORDS_4 t_OWN_WORDS_5 t_OWN_WORDS_6 t_OWN_WORDS_7 : Tok} {A_OWN_WORDS : Addr} {n_OWN_WORDS : Nat}
    (g_OWN_WORDS : PySem.W.nsIn K mainGlobals "OWN_WORDS" = some (some (.ref A_OWN_WORDS)))
    (L_OWN_WORDS : K.lookup A_OWN_WORDS = some ⟨.type "dict", none, .dict #[⟨PyData.keyHash w.params "fn", .str "fn" t_OWN_WORDS_0, .bool true⟩, ⟨PyData.keyHash w.params "let", .str "let" t_OWN_WORDS_1, .bool true⟩, ⟨PyData.keyHash w.params "in", .str "in" t_OWN_WORDS_2, .bool true⟩, ⟨PyData.keyHash w.params "rec", .str "rec" t_OWN_WORDS_3, .bool true⟩, ⟨PyData.keyHash w.params "match", .str "match" t_OWN_WORDS_4, .bool true⟩, ⟨PyData.keyHash w.params "with", .str "with" t_OWN_WORDS_5, .bool true⟩, ⟨PyData.keyHash w.params "fail", .str "fail" t_OWN_WORDS_6, .bool true⟩, ⟨PyData.keyHash w.params "num", .str "num" t_OWN_WORDS_7, .bool true⟩] n_OWN_WORDS, #[]⟩)
    (lo_OWN_WORDS : (A_OWN_WORDS == sysModules) = false)
    {t_SMALL_LETTERS : Tok}
    (g_SMALL_LETTERS : PySem.W.nsIn K mainGlobals "SMALL_LETTERS" = some (some (.str "abcdefghijklmnopqrstuvwxyz" t_SMALL_LETTERS)))
    {t_CAPITALS : Tok}
    (g_CAPITALS : PySem.W.nsIn K mainGlobals "CAPITALS" = some (some (.str "ABCDEFGHIJKLMNOPQRSTUVWXYZ" t_CAPITALS)))
    {t_DIGITS : Tok}
    (g_DIGITS : PySem.W.nsIn K mainGlobals "DIGITS" = some (some (.str "0123456789" t_DIGITS)))
    {t_SIGNS : Tok}
    (g_SIGNS : PySem.W.nsIn K mainGlobals "SIGNS" = some (some (.str "(){}[]<>=,;:.|+-*/@^_" t_SIGNS)))
    {t_SORTS_0 u_SORTS_0 t_SORTS_1 u_SORTS_1 t_SORTS_2 u_SORTS_2 t_SORTS_3 u_SORTS_3 t_SORTS_4 u_SORTS_4 t_SORTS_5 u_SORTS_5 t_SORTS_6 u_SORTS_6 t_SORTS_7 u_SORTS_7 t_SORTS_8 u_SORTS_8 t_SORTS_9 u_SORTS_9 t_SORTS_10 u_SORTS_10 t_SORTS_11 u_SORTS_11 t_SORTS_12 u_SORTS_12 t_SORTS_13 u_SORTS_13 t_SORTS_14 u_SORTS_14 t_SORTS_15 u_SORTS_15 t_SORTS_16 u_SORTS_16 t_SORTS_17 u_SORTS_17 t_SORTS_18 u_SORTS_18 t_SORTS_19 u_SORTS_19 t_SORTS_20 u_SORTS_20 t_SORTS_21 u_SORTS_21 t_SORTS_22 u_SORTS_22 t_SORTS_23 u_SORTS_23 t_SORTS_24 u_SORTS_24 t_SORTS_25 u_SORTS_25 t_SORTS_26 u_SORTS_26 t_SORTS_27 u_SORTS_27 t_SORTS_28 u_SORTS_28 t_SORTS_29 u_SORTS_29 t_SORTS_30 u_SORTS_30 t_SORTS_31 u_SORTS_31 t_SORTS_32 u_SORTS_32 t_SORTS_33 u_SORTS_33 t_SORTS_34 u_SORTS_34 t_SORTS_35 u_SORTS_35 t_SORTS_36 u_SORTS_36 t_SORTS_37 u_SORTS_37 t_SORTS_38 u_SORTS_38 t_SORTS_39 u_SORTS_39 t_SORTS_40 u_SORTS_40 t_SORTS_41 u_SORTS_41 t_SORTS_42 u_SORTS_42 t_SORTS_43 u_SORTS_43 t_SORTS_44 u_SORTS_44 t_SORTS_45 u_SORTS_45 t_SORTS_46 u_SORTS_46 t_SORTS_47 u_SORTS_47 t_SORTS_48 u_SORTS_48 t_SORTS_49 u_SORTS_49 t_SORTS_50 u_SORTS_50 t_SORTS_51 u_SORTS_51 t_SORTS_52 u_SORTS_52 t_SORTS_53 u_SORTS_53 t_SORTS_54 u_SORTS_54 t_SORTS_55 u_SORTS_55 t_SORTS_56 u_SORTS_56 t_SORTS_57 u_SORTS_57 t_SORTS_58 u_SORTS_58 t_SORTS_59 u_SORTS_59 t_SORTS_60 u_SORTS_60 t_SORTS_61 u_SORTS_61 t_SORTS_62 u_SORTS_62 t_SORTS_63 u_SORTS_63 : Tok} {A_SORTS : Addr} {n_SORTS : Nat}
    (g_SORTS : PySem.W.nsIn K mainGlobals "SORTS" = some (some (.ref A_SORTS)))
    (L_SORTS : K.lookup A_SORTS = some ⟨.type "dict", none, .dict #[⟨PyData.keyHash w.params "a", .str "a" t_SORTS_0, .str "word" u_SORTS_0⟩, ⟨PyData.keyHash w.params "b", .str "b" t_SORTS_1, .str "word" u_SORTS_1⟩, ⟨PyData.keyHash w.params "c", .str "c" t_SORTS_2, .str "word" u_SORTS_2⟩, ⟨PyData.keyHash w.params "d", .str "d" t_SORTS_3, .str "word" u_SORTS_3⟩, ⟨PyData.keyHash w.params "e", .str "e" t_SORTS_4, .str "word" u_SORTS_4⟩, ⟨PyData.keyHash w.params "f", .str "f" t_SORTS_5, .str "word" u_SORTS_5⟩, ⟨PyData.keyHash w.params "g", .str "g" t_SORTS_6, .str "word" u_SORTS_6⟩, ⟨PyData.keyHash w.params "h", .str "h" t_SORTS_7, .str "word" u_SORTS_7⟩, ⟨PyData.keyHash w.params "i", .str "i" t_SORTS_8, .str "word" u_SORTS_8⟩, ⟨PyData.keyHash w.params "j", .str "j" t_SORTS_9, .str "word" u_SORTS_9⟩, ⟨PyData.keyHash w.params "k", .str "k" t_SORTS_10, .str "word" u_SORTS_10⟩, ⟨PyData.keyHash w.params "l", .str "l" t_SORTS_11, .str "word" u_SORTS_11⟩, ⟨PyData.keyHash w.params "m", .str "m" t_SORTS_12, .str "word" u_SORTS_12⟩, ⟨PyData.keyHash w.params "n", .str "n" t_SORTS_13, .str "word" u_SORTS_13⟩, ⟨PyData.keyHash w.params "o", .str "o" t_SORTS_14, .str "word" u_SORTS_14⟩, ⟨PyData.keyHash w.params "p", .str "p" t_SORTS_15, .str "word" u_SORTS_15⟩, ⟨PyData.keyHash w.params "q", .str "q" t_SORTS_16, .str "word" u_SORTS_16⟩, ⟨PyData.keyHash w.params "r", .str "r" t_SORTS_17, .str "word" u_SORTS_17⟩, ⟨PyData.keyHash w.params "s", .str "s" t_SORTS_18, .str "word" u_SORTS_18⟩, ⟨PyData.keyHash w.params "t", .str "t" t_SORTS_19, .str "word" u_SORTS_19⟩, ⟨PyData.keyHash w.params "u", .str "u" t_SORTS_20, .str "word" u_SORTS_20⟩, ⟨PyData.keyHash w.params "v", .str "v" t_SORTS_21, .str "word" u_SORTS_21⟩, ⟨PyData.keyHash w.params "w", .str "w" t_SORTS_22, .str "word" u_SORTS_22⟩, ⟨PyData.keyHash w.params "x", .str "x" t_SORTS_23, .str "word" u_SORTS_23⟩, ⟨PyData.keyHash w.params "y", .str "y" t_SORTS_24, .str "word" u_SORTS_24⟩, ⟨PyData.keyHash w.params "z", .str "z" t_SORTS_25, .str "word" u_SORTS_25⟩, ⟨PyData.keyHash w.params "A", .str "A" t_SORTS_26, .str "tag" u_SORTS_26⟩, ⟨PyData.keyHash w.params "B", .str "B" t_SORTS_27, .str "tag" u_SORTS_27⟩, ⟨PyData.keyHash w.params "C", .str "C" t_SORTS_28, .str "tag" u_SORTS_28⟩, ⟨PyData.keyHash w.params "D", .str "D" t_SORTS_29, .str "tag" u_SORTS_29⟩, ⟨PyData.keyHash w.params "E", .str "E" t_SORTS_30, .str "tag" u_SORTS_30⟩, ⟨PyData.keyHash w.params "F", .str "F" t_SORTS_31, .str "tag" u_SORTS_31⟩, ⟨PyData.keyHash w.params "G", .str "G" t_SORTS_32, .str "tag" u_SORTS_32⟩, ⟨PyData.keyHash w.params "H", .str "H" t_SORTS_33, .str "tag" u_SORTS_33⟩, ⟨PyData.keyHash w.params "I", .str "I" t_SORTS_34, .str "tag" u_SORTS_34⟩, ⟨PyData.keyHash w.params "J", .str "J" t_SORTS_35, .str "tag" u_SORTS_35⟩, ⟨PyData.keyHash w.params "K", .str "K" t_SORTS_36, .str "tag" u_SORTS_36⟩, ⟨PyData.keyHash w.params "L", .str "L" t_SORTS_37, .str "tag" u_SORTS_37⟩, ⟨PyData.keyHash w.params "M", .str "M" t_SORTS_38, .str "tag" u_SORTS_38⟩, ⟨PyData.keyHash w.params "N", .str "N" t_SORTS_39, .str "tag" u_SORTS_39⟩, ⟨PyData.keyHash w.params "O", .str "O" t_SORTS_40, .str "tag" u_SORTS_40⟩, ⟨PyData.keyHash w.params "P", .str "P" t_SORTS_41, .str "tag" u_SORTS_41⟩, ⟨PyData.keyHash w.params "Q", .str "Q" t_SORTS_42, .str "tag" u_SORTS_42⟩, ⟨PyData.keyHash w.params "R", .str "R" t_SORTS_43, .str "tag" u_SORTS_43⟩, ⟨PyData.keyHash w.params "S", .str "S" t_SORTS_44, .str "tag" u_SORTS_44⟩, ⟨PyData.keyHash w.params "T", .str "T" t_SORTS_45, .str "tag" u_SORTS_45⟩, ⟨PyData.keyHash w.params "U", .str "U" t_SORTS_46, .str "tag" u_SORTS_46⟩, ⟨PyData.keyHash w.params "V", .str "V" t_SORTS_47, .str "tag" u_SORTS_47⟩, ⟨PyData.keyHash w.params "W", .str "W" t_SORTS_48, .str "tag" u_SORTS_48⟩, ⟨PyData.keyHash w.params "X", .str "X" t_SORTS_49, .str "tag" u_SORTS_49⟩, ⟨PyData.keyHash w.params "Y", .str "Y" t_SORTS_50, .str "tag" u_SORTS_50⟩, ⟨PyData.keyHash w.params "Z", .str "Z" t_SORTS_51, .str "tag" u_SORTS_51⟩, ⟨PyData.keyHash w.params "0", .str "0" t_SORTS_52, .str "number" u_SORTS_52⟩, ⟨PyData.keyHash w.params "1", .str "1" t_SORTS_53, .str "number" u_SORTS_53⟩, ⟨PyData.keyHash w.params "2", .str "2" t_SORTS_54, .str "number" u_SORTS_54⟩, ⟨PyData.keyHash w.params "3", .str "3" t_SORTS_55, .str "number" u_SORTS_55⟩, ⟨PyData.keyHash w.params "4", .str "4" t_SORTS_56, .str "number" u_SORTS_56⟩, ⟨PyData.keyHash w.params "5", .str "5" t_SORTS_57, .str "number" u_SORTS_57⟩, ⟨PyData.keyHash w.params "6", .str "6" t_SORTS_58, .str "number" u_SORTS_58⟩, ⟨PyData.keyHash w.params "7", .str "7" t_SORTS_59, .str "number" u_SORTS_59⟩, ⟨PyData.keyHash w.params "8", .str "8" t_SORTS_60, .str "number" u_SORTS_60⟩, ⟨PyData.keyHash w.params "9", .str "9" t_SORTS_61, .str "number" u_SORTS_61⟩, ⟨PyData.keyHash w.params "'", .str "'" t_SORTS_62, .str "'" u_SORTS_62⟩, ⟨PyData.keyHash w.params "$", .str "$" t_SORTS_63, .str "$" u_SORTS_63⟩] n_SORTS, #[]⟩)
    (lo_SORTS : (A_SORTS == sysModules) = false)
    {nm_BadText q_BadText : Str} {N_BadText : Addr} {bs_BadText : List Value} {sn_BadText : List Str} {sub_BadText : List Value} {ab_BadText : Bool} {col_BadText : Option Bool} {dd_BadText : Option Addr} {m0_BadText m1_BadText m2_BadText m3_BadText m5_BadText : Option Value}
    (xL_BadText : K.lookup C_BadText = some (excClassObj nm_BadText q_BadText C_BadText N_BadText bs_BadText [.ref C_KindError, .type "ValueError", .type "Exception", .type "BaseException", .type "object"] true sn_BadText sub_BadText ab_BadText col_BadText dd_BadText m0_BadText m1_BadText m2_BadText m3_BadText m5_BadText "ValueError.__new__"))
    (sa_BadText : PySem.W.findIn K (.ref C_BadText) "__setattr__" = some (some (.builtin "object.__setattr__")))
    (ga_BadText : PySem.W.findIn K (.ref C_BadText) "__getattribute__" = some (some (.builtin "BaseException.__getattribute__")))
    (gg_BadText : PySem.W.findIn K (.ref C_BadText) "__getattr__" = some none)
    (eC_BadText : PySem.W.subIn K (.ref C_BadText) (.type "BaseException") = some true)
    (tC_BadText : PySem.W.typeIn K (.ref C_BadText) = some (.type "type"))
    (kC_BadText : PySem.W.keepIn K (.ref C_BadText) = true)
    (hC_BadText : PySem.W.hasDictIn K C_BadText = true)
    (iC_BadText : PySem.W.isClsIn K C_BadText = true)
    (sC_BadText : PySem.W.subIn K (.ref C_BadText) (.ref C_BadText) = some true)
    (tI_BadText : PySem.W.typeIn K (.ref f0) = some (.type "function"))
    (no_BadText_at : PySem.W.findIn K (.ref C_BadText) "at" = some none)
    : ∃ fd : FuncData, (∀ (s : Shared) (v : Value), BindsTo s fd ⟨[v], []⟩ [("script", v)]) ∧ ∀ base : Heap, K.In base → base.Ns mainGlobals mg → FnOk l.prog w K mg base CX0 7 fa fd ["script"] (spLaw K) := by
  have e := hfa.symm.trans (PySem.W.mg_of X G a17)
  cases e
  have F0 := fun_mk (st := s_BadText_init) l0 e0 k0
  have b0 := F0.binds (ps := ["self", "at"]) fun _ _ _ _ _ _ us hl => match us, hl with | [_, _], _ => rfl
  have F1 := fun_mk (st := s_run_end) l1 e1 k1
  have b1 := F1.binds (ps := ["text", "begin", "signs", "most"]) fun _ _ _ _ _ _ us hl => match us, hl with | [_, _, _, _], _ => rfl
  have F2 := fun_mk (st := s_word_end) l2 e2 k2
  have b2 := F2.binds (ps := ["text", "begin"]) fun _ _ _ _ _ _ us hl => match us, hl with | [_, _], _ => rfl
  have F3 := fun_mk (st := s_tag_end) l3 e3 k3
  have b3 := F3.binds (ps := ["text", "begin"]) fun _ _ _ _ _ _ us hl => match us, hl with | [_, _], _ => rfl
  have F4 := fun_mk (st := s_number_end) l4 e4 k4
  have b4 := F4.binds (ps := ["text", "begin"]) fun _ _ _ _ _ _ us hl => match us, hl with | [_, _], _ => rfl
  have F5 := fun_mk (st := s_token_end) l5 e5 k5
  have b5 := F5.binds (ps := ["text", "begin", "sort"]) fun _ _ _ _ _ _ us hl => match us, hl with | [_, _, _], _ => rfl
  have F6 := fun_mk (st := s_cut) l6 e6 k6
  have b6 := F6.binds (ps := ["text"]) fun _ _ _ _ _ _ us hl => match us, hl with | [_], _ => rfl
  have F7 := fun_mk (st := s_tokens) l7 e7 k7
  have b7 := F7.binds (ps := ["text"]) fun _ _ _ _ _ _ us hl => match us, hl with | [_], _ => rfl
  have F8 := fun_mk (st := s_law_cell) l8 e8 k8
  have b8 := F8.binds (ps := ["script", "k"]) fun _ _ _ _ _ _ us hl => match us, hl with | [_, _], _ => rfl
  have F9 := fun_mk (st := s_law_box) l9 e9 k9
  have b9 := F9.binds (ps := ["cell"]) fun _ _ _ _ _ _ us hl => match us, hl with | [_], _ => rfl
  have F10 := fun_mk (st := s_law_take) l10 e10 k10
  have b10 := F10.binds (ps := ["box", "many"]) fun _ _ _ _ _ _ us hl => match us, hl with | [_, _], _ => rfl
  have F11 := fun_mk (st := s_law_run) l11 e11 k11
  have b11 := F11.binds (ps := ["text", "spot", "signs", "most"]) fun _ _ _ _ _ _ us hl => match us, hl with | [_, _, _, _], _ => rfl
  have F12 := fun_mk (st := s_law_word_end) l12 e12 k12
  have b12 := F12.binds (ps := ["text", "spot"]) fun _ _ _ _ _ _ us hl => match us, hl with | [_, _], _ => rfl
  have F13 := fun_mk (st := s_law_one) l13 e13 k13
  have b13 := F13.binds (ps := ["text", "spot"]) fun _ _ _ _ _ _ us hl => match us, hl with | [_, _], _ => rfl
  have F14 := fun_mk (st := s_law_due) l14 e14 k14
  have b14 := F14.binds (ps := ["text"]) fun _ _ _ _ _ _ us hl => match us, hl with | [_], _ => rfl
  have F15 := fun_mk (st := s_law_text) l15 e15 k15
  have b15 := F15.binds (ps := ["box"]) fun _ _ _ _ _ _ us hl => match us, hl with | [_], _ => rfl
  have F16 := fun_mk (st := s_law_told) l16 e16 k16
  have b16 := F16.binds (ps := ["text"]) fun _ _ _ _ _ _ us hl => match us, hl with | [_], _ => rfl
  have F17 := fun_mk (st := s_law) l17 e17 k17
  have b17 := F17.binds (ps := ["script"]) fun _ _ _ _ _ _ us hl => match us, hl with | [_], _ => rfl
  have T : Top w K mg {
    a_BadText_init := f0, fd_BadText_init := (PySem.W.fnOf "__init__" "BadText.__init__" (defArgs s_BadText_init) (defBody s_BadText_init) (defScope s_BadText_init) .none kV0 dc0 pm0 an0 cd0 ct0),
    a_run_end := f1, fd_run_end := (PySem.W.fnOf "run_end" "run_end" (defArgs s_run_end) (defBody s_run_end) (defScope s_run_end) .none kV1 dc1 pm1 an1 cd1 ct1),
    a_word_end := f2, fd_word_end := (PySem.W.fnOf "word_end" "word_end" (defArgs s_word_end) (defBody s_word_end) (defScope s_word_end) .none kV2 dc2 pm2 an2 cd2 ct2),
    a_tag_end := f3, fd_tag_end := (PySem.W.fnOf "tag_end" "tag_end" (defArgs s_tag_end) (defBody s_tag_end) (defScope s_tag_end) .none kV3 dc3 pm3 an3 cd3 ct3),
    a_number_end := f4, fd_number_end := (PySem.W.fnOf "number_end" "number_end" (defArgs s_number_end) (defBody s_number_end) (defScope s_number_end) .none kV4 dc4 pm4 an4 cd4 ct4),
    a_token_end := f5, fd_token_end := (PySem.W.fnOf "token_end" "token_end" (defArgs s_token_end) (defBody s_token_end) (defScope s_token_end) .none kV5 dc5 pm5 an5 cd5 ct5),
    a_cut := f6, fd_cut := (PySem.W.fnOf "cut" "cut" (defArgs s_cut) (defBody s_cut) (defScope s_cut) .none kV6 dc6 pm6 an6 cd6 ct6),
    a_tokens := f7, fd_tokens := (PySem.W.fnOf "tokens" "tokens" (defArgs s_tokens) (defBody s_tokens) (defScope s_tokens) .none kV7 dc7 pm7 an7 cd7 ct7),
    a_law_cell := f8, fd_law_cell := (PySem.W.fnOf "_law_cell" "_law_cell" (defArgs s_law_cell) (defBody s_law_cell) (defScope s_law_cell) .none kV8 dc8 pm8 an8 cd8 ct8),
    a_law_box := f9, fd_law_box := (PySem.W.fnOf "_law_box" "_law_box" (defArgs s_law_box) (defBody s_law_box) (defScope s_law_box) .none kV9 dc9 pm9 an9 cd9 ct9),
    a_law_take := f10, fd_law_take := (PySem.W.fnOf "_law_take" "_law_take" (defArgs s_law_take) (defBody s_law_take) (defScope s_law_take) .none kV10 dc10 pm10 an10 cd10 ct10),
    a_law_run := f11, fd_law_run := (PySem.W.fnOf "_law_run" "_law_run" (defArgs s_law_run) (defBody s_law_run) (defScope s_law_run) .none kV11 dc11 pm11 an11 cd11 ct11),
    a_law_word_end := f12, fd_law_word_end := (PySem.W.fnOf "_law_word_end" "_law_word_end" (defArgs s_law_word_end) (defBody s_law_word_end) (defScope s_law_word_end) .none kV12 dc12 pm12 an12 cd12 ct12),
    a_law_one := f13, fd_law_one := (PySem.W.fnOf "_law_one" "_law_one" (defArgs s_law_one) (defBody s_law_one) (defScope s_law_one) .none kV13 dc13 pm13 an13 cd13 ct13),
    a_law_due := f14, fd_law_due := (PySem.W.fnOf "_law_due" "_law_due" (defArgs s_law_due) (defBody s_law_due) (defScope s_law_due) .none kV14 dc14 pm14 an14 cd14 ct14),
    a_law_text := f15, fd_law_text := (PySem.W.fnOf "_law_text" "_law_text" (defArgs s_law_text) (defBody s_law_text) (defScope s_law_text) .none kV15 dc15 pm15 an15 cd15 ct15),
    a_law_told := f16, fd_law_told := (PySem.W.fnOf "_law_told" "_law_told" (defArgs s_law_told) (defBody s_law_told) (defScope s_law_told) .none kV16 dc16 pm16 an16 cd16 ct16),
    a_law := fa, fd_law := (PySem.W.fnOf "law" "law" (defArgs s_law) (defBody s_law) (defScope s_law) .none kV17 dc17 pm17 an17 cd17 ct17),
    a_OWN_WORDS := A_OWN_WORDS,
    a_SORTS := A_SORTS,
    c_KindError := C_KindError,
    c_BadText := C_BadText } := {
    F_BadText_init := F0, b_BadText_init := b0,
    F_run_end := F1, b_run_end := b1, m_run_end := PySem.W.mg_of X G a1,
    F_word_end := F2, b_word_end := b2, m_word_end := PySem.W.mg_of X G a2,
    F_tag_end := F3, b_tag_end := b3, m_tag_end := PySem.W.mg_of X G a3,
    F_number_end := F4, b_number_end := b4, m_number_end := PySem.W.mg_of X G a4,
    F_token_end := F5, b_token_end := b5, m_token_end := PySem.W.mg_of X G a5,
    F_cut := F6, b_cut := b6, m_cut := PySem.W.mg_of X G a6,
    F_tokens := F7, b_tokens := b7, m_tokens := PySem.W.mg_of X G a7,
    F_law_cell := F8, b_law_cell := b8, m_law_cell := PySem.W.mg_of X G a8,
    F_law_box := F9, b_law_box := b9, m_law_box := PySem.W.mg_of X G a9,
    F_law_take := F10, b_law_take := b10, m_law_take := PySem.W.mg_of X G a10,
    F_law_run := F11, b_law_run := b11, m_law_run := PySem.W.mg_of X G a11,
    F_law_word_end := F12, b_law_word_end := b12, m_law_word_end := PySem.W.mg_of X G a12,
    F_law_one := F13, b_law_one := b13, m_law_one := PySem.W.mg_of X G a13,
    F_law_due := F14, b_law_due := b14, m_law_due := PySem.W.mg_of X G a14,
    F_law_text := F15, b_law_text := b15, m_law_text := PySem.W.mg_of X G a15,
    F_law_told := F16, b_law_told := b16, m_law_told := PySem.W.mg_of X G a16,
    F_law := F17, b_law := b17, m_law := PySem.W.mg_of X G a17,
    n_bool := PySem.W.mg_none_of X G z_bool,
    n_int := PySem.W.mg_none_of X G z_int,
    n_isinstance := PySem.W.mg_none_of X G z_isinstance,
    n_len := PySem.W.mg_none_of X G z_len,
    n_list := PySem.W.mg_none_of X G z_list,
    n_max := PySem.W.mg_none_of X G z_max,
    n_min := PySem.W.mg_none_of X G z_min,
    n_range := PySem.W.mg_none_of X G z_range,
    n_sum := PySem.W.mg_none_of X G z_sum,
    m_OWN_WORDS := ⟨_, PySem.W.mg_of X G g_OWN_WORDS, rfl⟩,
    q_OWN_WORDS := ⟨_, _, ⟨L_OWN_WORDS, (by exact ⟨⟨_, _, rfl, rfl⟩, ⟨⟨_, _, rfl, rfl⟩, ⟨⟨_, _, rfl, rfl⟩, ⟨⟨_, _, rfl, rfl⟩, ⟨⟨_, _, rfl, rfl⟩, ⟨⟨_, _, rfl, rfl⟩, ⟨⟨_, _, rfl, rfl⟩, ⟨⟨_, _, rfl, rfl⟩, trivial⟩⟩⟩⟩⟩⟩⟩⟩), lo_OWN_WORDS⟩, (by exact .cons ⟨⟨_, rfl⟩, rfl⟩ (.cons ⟨⟨_, rfl⟩, rfl⟩ (.cons ⟨⟨_, rfl⟩, rfl⟩ (.cons ⟨⟨_, rfl⟩, rfl⟩ (.cons ⟨⟨_, rfl⟩, rfl⟩ (.cons ⟨⟨_, rfl⟩, rfl⟩ (.cons ⟨⟨_, rfl⟩, rfl⟩ (.cons ⟨⟨_, rfl⟩, rfl⟩ (.nil)))))))))⟩,
    m_SMALL_LETTERS := ⟨_, PySem.W.mg_of X G g_SMALL_LETTERS, ⟨_, rfl⟩⟩,
    m_CAPITALS := ⟨_, PySem.W.mg_of X G g_CAPITALS, ⟨_, rfl⟩⟩,
    m_DIGITS := ⟨_, PySem.W.mg_of X G g_DIGITS, ⟨_, rfl⟩⟩,
    m_SIGNS := ⟨_, PySem.W.mg_of X G g_SIGNS, ⟨_, rfl⟩⟩,
    m_SORTS := ⟨_, PySem.W.mg_of X G g_SORTS, rfl⟩,
    q_SORTS := ⟨_, _, ⟨L_SORTS, (by exact ⟨⟨_, _, rfl, rfl⟩, ⟨⟨_, _, rfl, rfl⟩, ⟨⟨_, _, rfl, rfl⟩, ⟨⟨_, _, rfl, rfl⟩, ⟨⟨_, _, rfl, rfl⟩, ⟨⟨_, _, rfl, rfl⟩, ⟨⟨_, _, rfl, rfl⟩, ⟨⟨_, _, rfl, rfl⟩, ⟨⟨_, _, rfl, rfl⟩, ⟨⟨_, _, rfl, rfl⟩, ⟨⟨_, _, rfl, rfl⟩, ⟨⟨_, _, rfl, rfl⟩, ⟨⟨_, _, rfl, rfl⟩, ⟨⟨_, _, rfl, rfl⟩, ⟨⟨_, _, rfl, rfl⟩, ⟨⟨_, _, rfl, rfl⟩, ⟨⟨_, _, rfl, rfl⟩, ⟨⟨_, _, rfl, rfl⟩, ⟨⟨_, _, rfl, rfl⟩, ⟨⟨_, _, rfl, rfl⟩, ⟨⟨_, _, rfl, rfl⟩, ⟨⟨_, _, rfl, rfl⟩, ⟨⟨_, _, rfl, rfl⟩, ⟨⟨_, _, rfl, rfl⟩, ⟨⟨_, _, rfl, rfl⟩, ⟨⟨_, _, rfl, rfl⟩, ⟨⟨_, _, rfl, rfl⟩, ⟨⟨_, _, rfl, rfl⟩, ⟨⟨_, _, rfl, rfl⟩, ⟨⟨_, _, rfl, rfl⟩, ⟨⟨_, _, rfl, rfl⟩, ⟨⟨_, _, rfl, rfl⟩, ⟨⟨_, _, rfl, rfl⟩, ⟨⟨_, _, rfl, rfl⟩, ⟨⟨_, _, rfl, rfl⟩, ⟨⟨_, _, rfl, rfl⟩, ⟨⟨_, _, rfl, rfl⟩, ⟨⟨_, _, rfl, rfl⟩, ⟨⟨_, _, rfl, rfl⟩, ⟨⟨_, _, rfl, rfl⟩, ⟨⟨_, _, rfl, rfl⟩, ⟨⟨_, _, rfl, rfl⟩, ⟨⟨_, _, rfl, rfl⟩, ⟨⟨_, _, rfl, rfl⟩, ⟨⟨_, _, rfl, rfl⟩, ⟨⟨_, _, rfl, rfl⟩, ⟨⟨_, _, rfl, rfl⟩, ⟨⟨_, _, rfl, rfl⟩, ⟨⟨_, _, rfl, rfl⟩, ⟨⟨_, _, rfl, rfl⟩, ⟨⟨_, _, rfl, rfl⟩, ⟨⟨_, _, rfl, rfl⟩, ⟨⟨_, _, rfl, rfl⟩, ⟨⟨_, _, rfl, rfl⟩, ⟨⟨_, _, rfl, rfl⟩, ⟨⟨_, _, rfl, rfl⟩, ⟨⟨_, _, rfl, rfl⟩, ⟨⟨_, _, rfl, rfl⟩, ⟨⟨_, _, rfl, rfl⟩, ⟨⟨_, _, rfl, rfl⟩, ⟨⟨_, _, rfl, rfl⟩, ⟨⟨_, _, rfl, rfl⟩, ⟨⟨_, _, rfl, rfl⟩, ⟨⟨_, _, rfl, rfl⟩, trivial⟩⟩⟩⟩⟩⟩⟩⟩⟩⟩⟩⟩⟩⟩⟩⟩⟩⟩⟩⟩⟩⟩⟩⟩⟩⟩⟩⟩⟩⟩⟩⟩⟩⟩⟩⟩⟩⟩⟩⟩⟩⟩⟩⟩⟩⟩⟩⟩⟩⟩⟩⟩⟩⟩⟩⟩⟩⟩⟩⟩⟩⟩⟩⟩), lo_SORTS⟩, (by exact .cons ⟨⟨_, rfl⟩, ⟨_, rfl⟩⟩ (.cons ⟨⟨_, rfl⟩, ⟨_, rfl⟩⟩ (.cons ⟨⟨_, rfl⟩, ⟨_, rfl⟩⟩ (.cons ⟨⟨_, rfl⟩, ⟨_, rfl⟩⟩ (.cons ⟨⟨_, rfl⟩, ⟨_, rfl⟩⟩ (.cons ⟨⟨_, rfl⟩, ⟨_, rfl⟩⟩ (.cons ⟨⟨_, rfl⟩, ⟨_, rfl⟩⟩ (.cons ⟨⟨_, rfl⟩, ⟨_, rfl⟩⟩ (.cons ⟨⟨_, rfl⟩, ⟨_, rfl⟩⟩ (.cons ⟨⟨_, rfl⟩, ⟨_, rfl⟩⟩ (.cons ⟨⟨_, rfl⟩, ⟨_, rfl⟩⟩ (.cons ⟨⟨_, rfl⟩, ⟨_, rfl⟩⟩ (.cons ⟨⟨_, rfl⟩, ⟨_, rfl⟩⟩ (.cons ⟨⟨_, rfl⟩, ⟨_, rfl⟩⟩ (.cons ⟨⟨_, rfl⟩, ⟨_, rfl⟩⟩ (.cons ⟨⟨_, rfl⟩, ⟨_, rfl⟩⟩ (.cons ⟨⟨_, rfl⟩, ⟨_, rfl⟩⟩ (.cons ⟨⟨_, rfl⟩, ⟨_, rfl⟩⟩ (.cons ⟨⟨_, rfl⟩, ⟨_, rfl⟩⟩ (.cons ⟨⟨_, rfl⟩, ⟨_, rfl⟩⟩ (.cons ⟨⟨_, rfl⟩, ⟨_, rfl⟩⟩ (.cons ⟨⟨_, rfl⟩, ⟨_, rfl⟩⟩ (.cons ⟨⟨_, rfl⟩, ⟨_, rfl⟩⟩ (.cons ⟨⟨_, rfl⟩, ⟨_, rfl⟩⟩ (.cons ⟨⟨_, rfl⟩, ⟨_, rfl⟩⟩ (.cons ⟨⟨_, rfl⟩, ⟨_, rfl⟩⟩ (.cons ⟨⟨_, rfl⟩, ⟨_, rfl⟩⟩ (.cons ⟨⟨_, rfl⟩, ⟨_, rfl⟩⟩ (.cons ⟨⟨_, rfl⟩, ⟨_, rfl⟩⟩ (.cons ⟨⟨_, rfl⟩, ⟨_, rfl⟩⟩ (.cons ⟨⟨_, rfl⟩, ⟨_, rfl⟩⟩ (.cons ⟨⟨_, rfl⟩, ⟨_, rfl⟩⟩ (.cons ⟨⟨_, rfl⟩, ⟨_, rfl⟩⟩ (.cons ⟨⟨_, rfl⟩, ⟨_, rfl⟩⟩ (.cons ⟨⟨_, rfl⟩, ⟨_, rfl⟩⟩ (.cons ⟨⟨_, rfl⟩, ⟨_, rfl⟩⟩ (.cons ⟨⟨_, rfl⟩, ⟨_, rfl⟩⟩ (.cons ⟨⟨_, rfl⟩, ⟨_, rfl⟩⟩ (.cons ⟨⟨_, rfl⟩, ⟨_, rfl⟩⟩ (.cons ⟨⟨_, rfl⟩, ⟨_, rfl⟩⟩ (.cons ⟨⟨_, rfl⟩, ⟨_, rfl⟩⟩ (.cons ⟨⟨_, rfl⟩, ⟨_, rfl⟩⟩ (.cons ⟨⟨_, rfl⟩, ⟨_, rfl⟩⟩ (.cons ⟨⟨_, rfl⟩, ⟨_, rfl⟩⟩ (.cons ⟨⟨_, rfl⟩, ⟨_, rfl⟩⟩ (.cons ⟨⟨_, rfl⟩, ⟨_, rfl⟩⟩ (.cons ⟨⟨_, rfl⟩, ⟨_, rfl⟩⟩ (.cons ⟨⟨_, rfl⟩, ⟨_, rfl⟩⟩ (.cons ⟨⟨_, rfl⟩, ⟨_, rfl⟩⟩ (.cons ⟨⟨_, rfl⟩, ⟨_, rfl⟩⟩ (.cons ⟨⟨_, rfl⟩, ⟨_, rfl⟩⟩ (.cons ⟨⟨_, rfl⟩, ⟨_, rfl⟩⟩ (.cons ⟨⟨_, rfl⟩, ⟨_, rfl⟩⟩ (.cons ⟨⟨_, rfl⟩, ⟨_, rfl⟩⟩ (.cons ⟨⟨_, rfl⟩, ⟨_, rfl⟩⟩ (.cons ⟨⟨_, rfl⟩, ⟨_, rfl⟩⟩ (.cons ⟨⟨_, rfl⟩, ⟨_, rfl⟩⟩ (.cons ⟨⟨_, rfl⟩, ⟨_, rfl⟩⟩ (.cons ⟨⟨_, rfl⟩, ⟨_, rfl⟩⟩ (.cons ⟨⟨_, rfl⟩, ⟨_, rfl⟩⟩ (.cons ⟨⟨_, rfl⟩, ⟨_, rfl⟩⟩ (.cons ⟨⟨_, rfl⟩, ⟨_, rfl⟩⟩ (.cons ⟨⟨_, rfl⟩, ⟨_, rfl⟩⟩ (.cons ⟨⟨_, rfl⟩, ⟨_, rfl⟩⟩ (.nil)))))))))))))))))))))))))))))))))))))))))))))))))))))))))))))))))⟩,
    m_KindError := PySem.W.mg_of X G aC_KindError,
    m_BadText := PySem.W.mg_of X G aC_BadText,
    ox_BadText := ⟨⟨_, _, _, _, _, _, _, _, _, _, _, _, _, _, _, xL_BadText, rfl⟩, sa_BadText, eC_BadText, tC_BadText, kC_BadText⟩,
    xf_BadText := ⟨ga_BadText, gg_BadText, eC_BadText, hC_BadText⟩, te_BadText := U.exm_self eC_BadText iC_BadText tC_BadText sC_BadText, i_BadText := a0, t_BadText := tI_BadText,
    no_BadText_at := no_BadText_at }
  exact ⟨PySem.W.fnOf "law" "law" (defArgs s_law) (defBody s_law) (defScope s_law) .none kV17 dc17 pm17 an17 cd17 ct17, fun s v => .of_eq rfl, fun base _ _ => ok_law T⟩
theorem walk {l : PySem.W.OpenLaw} {q : Program} {loose : List Str} {XP : (Str → Option Value) → Heap → Prop} {YP : World → Heap → Prop} {d : DefRec} {K : Params → PySem.W.Frag} (hn : l.most = some 63) (hdf : d.params.defaults = [])
    (hY : ∀ (w : World) (h : Heap), YP w h → (K w.params).In h)
    (F : ∀ (w : World) (mg : Str → Option Value) (fa : Addr) (h : Heap), (K w.params).In h → h.Ns mainGlobals mg → mg d.name = some (.ref fa) →
      ∃ fd : FuncData, (∀ (s : Shared) (u : Value), BindsTo s fd ⟨[u], []⟩ [("script", u)]) ∧ ∀ base : Heap, (K w.params).In base → base.Ns mainGlobals mg → FnOk l.prog w (K w.params) mg base CX0 7 fa fd ["script"] (spLaw (K w.params))) :
    PySem.W.WalkO q loose XP YP l.row.toRowW d [] (fun f vs => PySem.call f vs) :=
  L2.walk_of (n := 63) (k := 7) (x := "script") (CX := fun _ => CX0) (sp := fun w => spLaw (K w.params)) hn (by decide) hdf ⟨rfl, by decide, by decide⟩ hY F (fun _ _ a ns hl _ hS => ⟨a, ns, rfl, hS, hl, fun _ => rfl⟩) fun _ _ _ _ _ z => z
end Toy
open PySem PySem.W PyProof.Rows
set_option maxRecDepth 100000 in
set_option maxHeartbeats 0 in
theorem PySem.Challenge.cw_widestkind_k09_tokens_holds : PySem.Challenge.rw_widestkind_k09_tokens.Holds := by
  w_on; o_law; k_head; (case hw => w_witness2)
  k_fill
  refine Toy.walk (l := PySem.Challenge.rw_widestkind_k09_tokens) rfl rfl (fun w h Y => PySem.W.kIn_of Y) ?F
  case F =>
    intro w mg fa h KX G hmg
    refine' Toy.all_mk KX G hmg ?aC_KindError ?aC_BadText ?a0 ?l0 ?e0 ?k0 ?a1 ?l1 ?e1 ?k1 ?a2 ?l2 ?e2 ?k2 ?a3 ?l3 ?e3 ?k3 ?a4 ?l4 ?e4 ?k4 ?a5 ?l5 ?e5 ?k5 ?a6 ?l6 ?e6 ?k6 ?a7 ?l7 ?e7 ?k7 ?a8 ?l8 ?e8 ?k8 ?a9 ?l9 ?e9 ?k9 ?a10 ?l10 ?e10 ?k10 ?a11 ?l11 ?e11 ?k11 ?a12 ?l12 ?e12 ?k12 ?a13 ?l13 ?e13 ?k13 ?a14 ?l14 ?e14 ?k14 ?a15 ?l15 ?e15 ?k15 ?a16 ?l16 ?e16 ?k16 ?a17 ?l17 ?e17 ?k17 ?z_bool ?z_int ?z_isinstance ?z_len ?z_list ?z_max ?z_min ?z_range ?z_sum ?g_OWN_WORDS ?L_OWN_WORDS ?lo_OWN_WORDS ?g_SMALL_LETTERS ?g_CAPITALS ?g_DIGITS ?g_SIGNS ?g_SORTS ?L_SORTS ?lo_SORTS ?xL_BadText ?sa_BadText ?ga_BadText ?gg_BadText ?eC_BadText ?tC_BadText ?kC_BadText ?hC_BadText ?iC_BadText ?sC_BadText ?tI_BadText ?no_BadText_at
    (case aC_KindError => k_is)
    (case aC_BadText => k_is)
    (case a0 => k_is)
    (case l0 => k_is)
    (case e0 => k_is)
    (case k0 => k_is)
    (case a1 => k_is)
    (case l1 => k_is)
    (case e1 => k_is)
    (case k1 => k_is)
    (case a2 => k_is)
    (case l2 => k_is)
    (case e2 => k_is)
    (case k2 => k_is)
    (case a3 => k_is)
    (case l3 => k_is)
    (case e3 => k_is)
    (case k3 => k_is)
    (case a4 => k_is)
    (case l4 => k_is)
    (case e4 => k_is)
    (case k4 => k_is)
    (case a5 => k_is)
    (case l5 => k_is)
    (case e5 => k_is)
    (case k5 => k_is)
    (case a6 => k_is)
    (case l6 => k_is)
    (case e6 => k_is)
    (case k6 => k_is)
    (case a7 => k_is)
    (case l7 => k_is)
    (case e7 => k_is)
    (case k7 => k_is)
    (case a8 => k_is)
    (case l8 => k_is)
    (case e8 => k_is)
    (case k8 => k_is)
    (case a9 => k_is)
    (case l9 => k_is)
    (case e9 => k_is)
    (case k9 => k_is)
    (case a10 => k_is)
    (case l10 => k_is)
    (case e10 => k_is)
    (case k10 => k_is)
    (case a11 => k_is)
    (case l11 => k_is)
    (case e11 => k_is)
    (case k11 => k_is)
    (case a12 => k_is)
    (case l12 => k_is)
    (case e12 => k_is)
    (case k12 => k_is)
    (case a13 => k_is)
    (case l13 => k_is)
    (case e13 => k_is)
    (case k13 => k_is)
    (case a14 => k_is)
    (case l14 => k_is)
    (case e14 => k_is)
    (case k14 => k_is)
    (case a15 => k_is)
    (case l15 => k_is)
    (case e15 => k_is)
    (case k15 => k_is)
    (case a16 => k_is)
    (case l16 => k_is)
    (case e16 => k_is)
    (case k16 => k_is)
    (case a17 => k_is)
    (case l17 => k_is)
    (case e17 => k_is)
    (case k17 => k_is)
    (case z_bool => k_is)
    (case z_int => k_is)
    (case z_isinstance => k_is)
    (case z_len => k_is)
    (case z_list => k_is)
    (case z_max => k_is)
    (case z_min => k_is)
    (case z_range => k_is)
    (case z_sum => k_is)
    (case g_OWN_WORDS => k_is)
    (case L_OWN_WORDS => k_is)
    (case lo_OWN_WORDS => exact rfl)
    (case g_SMALL_LETTERS => k_is)
    (case g_CAPITALS => k_is)
    (case g_DIGITS => k_is)
    (case g_SIGNS => k_is)
    (case g_SORTS => k_is)
    (case L_SORTS => k_is)
    (case lo_SORTS => exact rfl)
    (case xL_BadText => k_is)
    (case sa_BadText => k_is)
    (case ga_BadText => k_is)
    (case gg_BadText => k_is)
    (case eC_BadText => k_is)
    (case tC_BadText => k_is)
    (case kC_BadText => k_is)
    (case hC_BadText => k_is)
    (case iC_BadText => k_is)
    (case sC_BadText => first | rfl | k_is)
    (case tI_BadText => k_is)
    (case no_BadText_at => k_is)
