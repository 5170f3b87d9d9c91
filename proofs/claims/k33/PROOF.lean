import PyProof.Rows.All
import Wide.All
import OpenK.AllK
import Wide.FinOn
import HandS.ForMost
import HandS.Codes
import HandS.Flow
import HandS.Style
import HandS.StrMore
import HandS.IsInst
import HandS.TupAny
import HandS.EndBits
import HandS.SortKw
import KE.KMinBuiltin
import HandS.WideBits
import HandS.Wide
import HandS.Walk
import HandS.Small
import HandS.AnyAll
import PySem.Challenge.RW_digitwise_k33_told_words
set_option Elab.async false
set_option linter.all false
set_option maxRecDepth 100000
set_option maxHeartbeats 4000000
namespace Dw
open PySem PySem.Spec PyProof.Rows L2 SX

theorem hu64 {A : Around} {k : Nat} (hr : Room k A) : A.units + 64 < cLine := hr.units
section
variable {X : Cx} {k j : Nat} {x : Str} {sp : Sp} {dvs : List V} {p pos : Pos}
theorem pe_c0 (c : C8.Cal X.prog X.w X.K X.mg X.base k x sp dvs) (hr : Room j X.A) (hk : k ≤ j) (hg : Gl X x)
    (hdb : (x == ("__debug__" : Str)) = false := by decide) :
    PE X (.Call (.Name x p) [] [] pos) (tCall sp dvs C8.E0 tNil) := by
  obtain ⟨f, fd, ps, ds, F, hm, kp, b, d⟩ := c.ex
  exact pe_call0 F (hr.mono hk) hg hm kp b d C8.pass0 hdb
end
theorem same_upd {H : Hp} {p : Addr} {o : HO} (h : H p = none) : Same H (upd H p o) := fun b x e => by
  rw [upd_ne (ne_of_none e h)]
  exact e
/-- all but what stands at p is as it was -/
def But (p : Addr) (H H' : Hp) : Prop := ∀ b o, b ≠ p → H b = some o → H' b = some o
theorem But.refl (p : Addr) (H : Hp) : But p H H := fun _ _ _ h => h
theorem But.trans {p : Addr} {H H1 H2 : Hp} (a : But p H H1) (b : But p H1 H2) : But p H H2 := fun c o n h => b c o n (a c o n h)
theorem But.of {p : Addr} {H H' : Hp} (a : Same H H') : But p H H' := fun b o _ h => a b o h
theorem But.upd {p : Addr} {H : Hp} {o : HO} : But p H (upd H p o) := fun b _ n h => by
  rw [upd_ne n]
  exact h
theorem But.list {p a : Addr} {H H' : Hp} {K : PySem.W.Frag} {xs : List V} (e : But p H H') (n : a ≠ p) (h : SqL K H a xs) : SqL K H' a xs := by
  rcases h with (h | ⟨o, h⟩) | h
  · exact .inl (.inl (e _ _ n h))
  · exact .inl (.inr ⟨o, e _ _ n h⟩)
  · exact .inr h
/-- the pool of drawn numbers at p, over the copied script at q -/
def Pool (H : Hp) (p q : Addr) (ns : List Int) : Prop := p ≠ q ∧ H q = some (.lst (ns.map V.int)) ∧ ∃ a k : Int, H p = some (.lst [.int a, .ref q, .int k]) ∧ 0 ≤ a ∧ -1 ≤ k
theorem Pool.same {H H' : Hp} {p q : Addr} {ns : List Int} (h : Pool H p q ns) (e : Same H H') : Pool H' p q ns := by
  obtain ⟨n, hq, a, k, hp, h0, h1⟩ := h
  exact ⟨n, e _ _ hq, a, k, e _ _ hp, h0, h1⟩

example : True := by trivial
end Dw
namespace Dw
open PySem PySem.Spec PyProof.Rows L2 SX
section
variable {CX : CXT} {P : Program} {w : World} {K : PySem.W.Frag} {mg : Str → Option Value} {base : Heap} {N : List Str} {qual : Str} {scope : Scope} {f : Addr} {cd : Value} {A : Around} {outer : List Env} {s : Shared} {H : Hp} {E : XK}
theorem cxOf_K : (cxOf CX P w K mg base N qual scope f cd A outer s H E).K = K := rfl
theorem cxOf_w : (cxOf CX P w K mg base N qual scope f cd A outer s H E).w = w := rfl
theorem cxOf_prog : (cxOf CX P w K mg base N qual scope f cd A outer s H E).prog = P := rfl
end
end Dw
namespace Dw
open PySem PySem.Spec PyProof.Rows L2 SX
theorem at_ints {ns : List Int} {k : Int} (h0 : 0 ≤ k) (h1 : k < (ns.length : Int)) : atI (ns.map V.int) k = some (.int (ns.getD k.toNat 0)) := by
  obtain ⟨n, rfl⟩ : ∃ n : Nat, k = (n : Int) := ⟨k.toNat, by omega⟩
  have h2 : n < ns.length := by omega
  refine atI_nat ?_
  rw [List.getElem?_map, Int.toNat_natCast, List.getD_eq_getElem?_getD, List.getElem?_eq_getElem h2]
  rfl
end Dw
namespace Dw
open PySem PySem.Spec PyProof.Rows L2 SX
/-- a text times an int -/
theorem op_mul_str {X : Cx} : OpR X (binaryOp .Mult) (fun x y H Q => ∃ (z : Str) (k : Int), x = .str z ∧ y = .int k ∧ MulOk z k ∧ Q (.str (Txt.mul z k)) H) := by
  intro pins s σ H x y v u Q I rx ry h
  obtain ⟨z, k, rfl, rfl, hz, q⟩ := h
  obtain ⟨t, rfl⟩ := rx
  obtain ⟨t', rfl⟩ := ry
  exact SB.mul hz (fun t' tk => ⟨.str (Txt.mul z k), H, I.tok _, ⟨_, rfl⟩, q⟩)
def rMulS : R2 := fun x y H Q => ∃ (z : Str) (k : Int), x = .str z ∧ y = .int k ∧ MulOk z k ∧ Q (.str (Txt.mul z k)) H
theorem op_mulS {X : Cx} : OpR X (binaryOp .Mult) rMulS := op_mul_str
/-! loops and comprehensions, folded -/
def ForJ (J : It) (g : TG) (tb : TS) (D : Ends) (σ : L2.St) (H : Hp) : Prop := ∃ W : Nat → Nat → L2.St → Hp → Prop, (∃ m, W 0 m σ H) ∧ ∀ i m σ H, W i m σ H →
  (J.stop i H ∧ D.nx σ H) ∨ (J.go i H ∧ ∃ N : L2.St → Hp → Prop, (∀ σ' H', N σ' H' → ∃ m', m' < m ∧ W (i + 1) m' σ' H') ∧ ∀ x H', J.yld i H x H' → g x σ H' fun σ2 H2 => tb { D with nx := N, ct := N, bk := D.nx } σ2 H2)
theorem tFor_eq (wi : TI) (g : TG) (tb : TS) (D : Ends) (σ : L2.St) (H : Hp) : tFor wi g tb D σ H = wi σ H fun J H1 => ForJ J g tb D σ H1 := rfl
def LcJ (J : It) (g : TG) (tt : TT) (te : TE) (vs : List Nat) (D : Addr) (σ : L2.St) (H1 : Hp) (Qd : Hp → Prop) : Prop := ∃ W : Nat → Nat → Hp → Prop, (∃ m, W 0 m (upd H1 D (.lst []))) ∧ ∀ i m H, W i m H →
  (J.stop i H ∧ Qd H) ∨ (J.go i H ∧ ∃ Nx : Hp → Prop, (∀ H', Nx H' → ∃ m', m' < m ∧ W (i + 1) m' H') ∧ ∀ x H', J.yld i H x H' → g x (wipe σ vs) H' fun σ2 H2 => wipe σ2 vs = wipe σ vs ∧ tt σ2 H2 fun b H3 =>
    if b = true then te σ2 H3 fun y H4 => ∃ acc, H4 D = some (.lst acc) ∧ acc.length < sizeLine ∧ Nx (upd H4 D (.lst (acc ++ [y]))) else Nx H3)
theorem tLc_eq (wi : TI) (g : TG) (tt : TT) (te : TE) (vs : List Nat) (σ : L2.St) (H : Hp) (Q : VK) : tLc wi g tt te vs σ H Q = wi σ H fun J H1 => ∀ D, H1 D = none → LcJ J g tt te vs D σ H1 fun H2 => Q (.ref D) H2 := rfl
/-! texts as lists of codes -/
def cs (s : String) : List Nat := (Str.ofString s).cps.toList
theorem ofStr_S (s : String) : Str.ofString s = S (cs s) := (S_tl _).symm
theorem one_S (c : Nat) : (⟨#[c]⟩ : Str) = S [c] := rfl
theorem S_iff (a b : List Nat) : (S a = S b) = (a = b) := propext ⟨S_inj, fun e => by rw [e]⟩
theorem S_cps (a : List Nat) : (S a).cps.toList = a := rfl
theorem len_S (a : List Nat) : (S a).length = a.length := S_len a
theorem at_mem {α : Type} {xs : List α} {i : Int} (h0 : 0 ≤ i) (h1 : i < (xs.length : Int)) : ∃ v, atI xs i = some v ∧ v ∈ xs := by
  obtain ⟨n, rfl⟩ : ∃ n : Nat, i = (n : Int) := ⟨i.toNat, by omega⟩
  have h2 : n < xs.length := by omega
  exact ⟨xs[n], atI_nat (List.getElem?_eq_getElem h2), List.getElem_mem h2⟩
def LOW : List Nat := cs "abcdefghijklmnopqrstuvwxyz"
def UPP : List Nat := cs "ABCDEFGHIJKLMNOPQRSTUVWXYZ"
def DIG : List Nat := cs "0123456789"
def RESW : List String := ["all", "def", "pow", "some", "told"]
def RES : List (List Nat) := RESW.map cs
def SGNW : List String := ["<=>", "=>", "->", "<=", ">=", "!=", "=", "<", ">", "+", "-", "*", "~", "&", "|", "(", ")", "[", "]", "{", "}", ",", ":", ";"]
def SGN : List (List Nat) := SGNW.map cs
def vS (l : List Nat) : V := .str (S l)
/-- a good name, a good word -/
structure GName (l : List Nat) : Prop where
  hd : ∃ c r, l = c :: r ∧ c ∈ LOW
  all : ∀ c ∈ l, c ∈ LOW ++ DIG
  le : l.length ≤ 12
  nr : l ∉ RES
structure GWord (l : List Nat) : Prop where
  hd : ∃ c r, l = c :: r ∧ c ∈ UPP
  all : ∀ c ∈ l, c ∈ UPP ++ DIG
  le : l.length ≤ 12
def NMS : List String := ["x", "y", "z", "alls", "v0", "v1", "po", "defx"]
instance (l : List Nat) : Decidable (∃ c r, l = c :: r ∧ c ∈ LOW) := match l with
  | [] => isFalse (by rintro ⟨_, _, h, _⟩; cases h)
  | c :: r => if h : c ∈ LOW then isTrue ⟨c, r, rfl, h⟩ else isFalse (by rintro ⟨_, _, e, h'⟩; cases e; exact h h')
theorem nms_ok : ∀ s ∈ NMS, (∃ c r, cs s = c :: r ∧ c ∈ LOW) ∧ (∀ c ∈ cs s, c ∈ LOW ++ DIG) ∧ (cs s).length ≤ 12 := by decide +kernel
theorem low_len : LOW.length = 26 := by decide +kernel
theorem lowdig_len : (LOW ++ DIG).length = 36 := by decide +kernel
theorem upp_len : UPP.length = 26 := by decide +kernel
theorem uppdig_len : (UPP ++ DIG).length = 36 := by decide +kernel
theorem res_len : ∀ l ∈ RES, l.length ≤ 4 := by decide +kernel
theorem res0 : ∀ l ∈ RES, l ++ cs "0" ∉ RES := by decide +kernel
/-- a drawn name is made good -/
theorem gname_of {l : List Nat} (hd : ∃ c r, l = c :: r ∧ c ∈ LOW) (all : ∀ c ∈ l, c ∈ LOW ++ DIG) (le : l.length ≤ 12) : (l ∈ RES → GName (l ++ cs "0")) ∧ (l ∉ RES → GName l) := by
  refine ⟨fun h => ⟨?_, ?_, ?_, res0 l h⟩, fun h => ⟨hd, all, le, h⟩⟩
  · obtain ⟨c, r, rfl, hc⟩ := hd
    exact ⟨c, r ++ cs "0", rfl, hc⟩
  · intro c hc
    rcases List.mem_append.mp hc with h1 | h1
    · exact all c h1
    · have : ∀ c ∈ cs "0", c ∈ LOW ++ DIG := by decide +kernel
      exact this c h1
  · rw [List.length_append]
    have := res_len l h
    have : (cs "0").length = 1 := by decide +kernel
    omega
end Dw
namespace Dw
open PySem PySem.Spec PyProof.Rows L2 SX
theorem eqV_S (a b : List Nat) : eqV (.str (S a)) (.str (S b)) = decide (a = b) := by
  show (S a == S b) = _
  exact S_beq_eq
theorem inV_S (l : List Nat) : ∀ L : List (List Nat), inV (.str (S l)) (L.map vS) = decide (l ∈ L)
  | [] => by simp [inV]
  | a :: L => by
    have ih := inV_S l L
    unfold inV at ih ⊢
    rw [List.map_cons, List.any_cons, ih]
    show (eqV (.str (S a)) (.str (S l)) || _) = _
    rw [eqV_S]
    by_cases h : a = l
    · subst h; simp
    · have h' : ¬ l = a := fun e => h e.symm
      simp [h, h']
theorem flat_S : ∀ L : List (List Nat), (L.map vS).all flatV = true
  | [] => rfl
  | a :: L => by
    rw [List.map_cons, List.all_cons, flat_S L]
    rfl
theorem small {n : Nat} (h : n ≤ 10000) : n ≤ sizeLine := Nat.le_trans h (by decide)
theorem smallt {n : Nat} (h : n ≤ 10000) : n < sizeLine := Nat.lt_of_le_of_lt h (by decide)
end Dw
namespace Dw
open PySem PySem.Spec PyProof.Rows L2 SX
def SPS : List String := ["", " ", "\n", "  \n ", " ", ""]
theorem sps_ok : ∀ s ∈ SPS, (∀ c ∈ cs s, c = 32 ∨ c = 10) ∧ (cs s).length ≤ 4 := by decide +kernel
def pfx (s t : List Nat) : Bool := t.take s.length == s
def isAN (c : Nat) : Bool := Unicode.isAlnum c
/-- the two pieces need a space between them -/
def joins (a b : List Nat) : Bool := (isAN (a.getLast?.getD 0) && isAN (b.head?.getD 0)) || SGN.any fun s => decide (a.length < s.length) && pfx a s && pfx s (a ++ b)
end Dw
namespace Dw
open PySem PySem.Spec PyProof.Rows L2 SX
theorem pfx_iff {s t : List Nat} : pfx s t = true ↔ ∃ r, t = s ++ r := by
  unfold pfx
  rw [beq_iff_eq]
  constructor
  · intro h
    exact ⟨t.drop s.length, by have := List.take_append_drop s.length t; rw [h] at this; exact this.symm⟩
  · rintro ⟨r, rfl⟩
    simp
theorem pfx_le {s t : List Nat} (h : pfx s t = true) : s.length ≤ t.length := by
  obtain ⟨r, rfl⟩ := pfx_iff.mp h
  rw [List.length_append]; omega
theorem subAt_S (a b : List Nat) (i : Nat) : Builtin.Str.subAt (S a) (S b) i = pfx b (a.drop i) := by
  rw [StrLaws.subAt_eq]
  show ((a.drop i).take (S b).length == b) = _
  rw [S_len]
  rfl
theorem sw_S (a b : List Nat) : Txt.startswith (S a) (S b) = pfx b a := by
  unfold Txt.startswith
  rw [subAt_S, S_len, S_len, List.drop_zero]
  cases h : pfx b a
  · simp
  · have := pfx_le h
    simp [this]
theorem sw3_S (a b : List Nat) (i : Nat) (hi : i ≤ a.length) : Txt.startswith3 (S a) (S b) (i : Int) = pfx b (a.drop i) := by
  unfold Txt.startswith3
  have e : fromIndex (S a).length (i : Int) = i := by
    unfold fromIndex
    rw [if_neg (by omega)]
    omega
  rw [e, subAt_S, S_len, S_len]
  cases h : pfx b (a.drop i)
  · simp
  · have := pfx_le h
    rw [List.length_drop] at this
    have h2 : i + b.length ≤ a.length := by omega
    simp [h2]
theorem an_S (c : Nat) : Txt.isalnum (S [c]) = isAN c := by
  unfold Txt.isalnum isAN
  show (decide ((S [c]).length > 0) && (#[c] : Array Nat).all Unicode.isAlnum) = _
  simp [Str.length]
end Dw
namespace Dw
theorem sgn_len : ∀ s ∈ SGN, s.length ≤ 3 := by decide +kernel
end Dw
namespace Dw
open PySem PySem.Spec PyProof.Rows L2 SX
abbrev TRow := List Nat × List Nat
def flat (rows : List TRow) : List Nat := rows.flatMap fun x => x.1 ++ x.2
def places (n : Nat) : List TRow → List V
  | [] => []
  | x :: r => .int (n : Nat) :: places (n + x.1.length + x.2.length) r
theorem flat_snoc (rows : List TRow) (x : TRow) : flat (rows ++ [x]) = flat rows ++ x.1 ++ x.2 := by
  simp [flat]
theorem flat_cons (rows : List TRow) (x : TRow) : flat (x :: rows) = x.1 ++ (x.2 ++ flat rows) := by
  simp [flat]
theorem places_snoc : ∀ (n : Nat) (rows : List TRow) (x : TRow), places n (rows ++ [x]) = places n rows ++ [.int ((n + (flat rows).length : Nat) : Int)]
  | n, [], x => by simp [places, flat]
  | n, y :: r, x => by
    show V.int _ :: places (n + y.1.length + y.2.length) (r ++ [x]) = _
    rw [places_snoc]
    show _ = V.int _ :: (places (n + y.1.length + y.2.length) r ++ _)
    rw [flat_cons, List.length_append, List.length_append]
    rw [show n + y.1.length + y.2.length + (flat r).length = n + (y.1.length + (y.2.length + (flat r).length)) by omega]
theorem places_len : ∀ (n : Nat) (rows : List TRow), (places n rows).length = rows.length
  | _, [] => rfl
  | n, y :: r => by
    show (places _ r).length + 1 = r.length + 1
    rw [places_len]
def Blank (l : List Nat) : Prop := (∀ c ∈ l, c = 32 ∨ c = 10) ∧ l.length ≤ 4
/-- where two parts join, a space stands between them -/
def Sepd (rows : List TRow) : Prop := ∀ (k : Nat) (x y : TRow), rows[k]? = some x → rows[k + 1]? = some y → joins x.1 y.1 = true → x.2 ≠ []
theorem flat_len : ∀ (rows : List TRow), (∀ x ∈ rows, x.1.length ≤ 100 ∧ x.2.length ≤ 4) → (flat rows).length ≤ 104 * rows.length
  | [], _ => by simp [flat]
  | x :: r, h => by
    have ih := flat_len r fun y hy => h y (List.mem_cons_of_mem _ hy)
    have h1 := h x List.mem_cons_self
    rw [flat_cons, List.length_append, List.length_append, List.length_cons]
    omega
theorem snoc_of {l : List Nat} (h : l ≠ []) : ∃ (a' : List Nat) (x : Nat), l = a' ++ [x] := ⟨l.dropLast, l.getLast h, (List.dropLast_concat_getLast h).symm⟩
theorem cons_of {l : List Nat} (h : l ≠ []) : ∃ (y : Nat) (b' : List Nat), l = y :: b' := by
  cases l with
  | nil => exact absurd rfl h
  | cons y r => exact ⟨y, r, rfl⟩
theorem at_map {α : Type} {f : α → V} {L : List α} {i : Nat} {a : α} (h : L[i]? = some a) : atI (L.map f) (i : Int) = some (f a) := atI_nat (by rw [List.getElem?_map, h]; rfl)
end Dw
namespace Dw
open PySem PySem.Spec PyProof.Rows L2 SX
theorem Pool.ne {H : Hp} {p q t : Addr} {ns : List Int} (h : Pool H p q ns) (ht : H t = none) : t ≠ p := by
  obtain ⟨_, _, _, _, hp, _⟩ := h
  exact (ne_of_none hp ht).symm
theorem But.free {H H1 : Hp} {p q t : Addr} {ns : List Int} (hB : But p H H1) (hP : Pool H1 p q ns) (ht : H1 t = none) : H t = none := by
  cases e : H t with
  | none => rfl
  | some o =>
    have := hB t o (hP.ne ht) e
    rw [ht] at this
    cases this
end Dw
namespace Dw
open PySem PySem.Spec PyProof.Rows L2 SX
theorem tyL {K : PySem.W.Frag} {H : Hp} {a : Addr} {xs : List V} (h : H a = some (.lst xs)) : tyV K "list" (.ref a) H := .inl ⟨rfl, _, SqL.of h⟩
theorem tyV_str {K : PySem.W.Frag} {H : Hp} {z : Str} : tyV K "str" (.str z) H = True := propext ⟨fun _ => trivial, fun _ => rfl⟩
theorem But.new {p t : Addr} {H H1 : Hp} {o : HO} (hB : But p H H1) (ht : H t = none) : But p H (L2.upd H1 t o) := fun b u n h => by
  rw [upd_ne (ne_of_none h ht)]
  exact hB b u n h
theorem Pool.set {p q t : Addr} {H : Hp} {ns : List Int} {o : HO} (h : Pool H p q ns) (h1 : t ≠ p) (h2 : t ≠ q) : Pool (L2.upd H t o) p q ns := by
  obtain ⟨n, hq, a, k, hp, h0, hk⟩ := h
  exact ⟨n, by rw [upd_ne h2.symm]; exact hq, a, k, by rw [upd_ne h1.symm]; exact hp, h0, hk⟩
theorem Pool.neq {H : Hp} {p q t : Addr} {ns : List Int} (h : Pool H p q ns) (ht : H t = none) : t ≠ q := by
  obtain ⟨_, hq, _⟩ := h
  exact (ne_of_none hq ht).symm
end Dw
namespace Dw
open PySem PySem.Spec PyProof.Rows L2 SX
def num (n : Nat) : List Nat := cs (toString (n : Int))
/-- a piece of a text, the kind and the value of its token -/
inductive Piece : List Nat → List Nat → V → Prop
  | res {l : List Nat} (h : l ∈ RES) : Piece l (cs "reserved") (.str (S l))
  | name {l : List Nat} (h : GName l) : Piece l (cs "name") (.str (S l))
  | word {l : List Nat} (h : GWord l) : Piece l (cs "word") (.str (S l))
  | num (n : Nat) (h : n < 256) : Piece (num n) (cs "number") (.int (n : Int))
  | sign {l : List Nat} (h : l ∈ SGN) : Piece l (cs "sign") (.str (S l))
end Dw
namespace Dw
open PySem PySem.Spec PyProof.Rows L2 SX
theorem But.upd2 {p t : Addr} {H H1 : Hp} {o : HO} (hB : But p H H1) (ht : H1 t = none) : But p H (L2.upd H1 t o) := hB.trans (But.of (same_upd ht))
end Dw
namespace Dw
open PySem PySem.Spec PyProof.Rows L2 SX
/-! loops by a word, what follows a turn left open -/
theorem while_up {c : TT} {tb : TS} {D : Ends} {σ : L2.St} {H : Hp} (W : Nat → L2.St → Hp → Prop) (h0 : ∃ m, W m σ H)
    (hs : ∀ m σ H (N : L2.St → Hp → Prop), W m σ H → (∀ m' σ' H', m' < m → W m' σ' H' → N σ' H') → c σ H fun b H1 => if b = true then tb { D with nx := N, ct := N, bk := D.nx } σ H1 else D.nx σ H1)
    (mono : ∀ σ H Q Q', (∀ b H1, Q b H1 → Q' b H1) → c σ H Q → c σ H Q') : tWhile c tb D σ H := by
  refine ⟨W, h0, fun m σ H hw => ?_⟩
  refine mono σ H _ _ (fun b H1 q => ?_) (hs m σ H (fun σ' H' => ∃ m', m' < m ∧ W m' σ' H') hw (fun m' σ' H' h1 h2 => ⟨m', h1, h2⟩))
  cases b with
  | true => exact ⟨_, fun σ' H' h => h, q⟩
  | false => exact q
theorem for_listN {K : PySem.W.Frag} {a : Addr} {xs : List V} {g : TG} {tb : TS} {D : Ends} {σ : L2.St} {H : Hp} (Pv : Nat → L2.St → Hp → Prop) (h0 : Pv 0 σ H) (hl : ∀ i σ H, i ≤ xs.length → Pv i σ H → SqL K H a xs)
    (hs : ∀ i x σ H (N : L2.St → Hp → Prop), xs[i]? = some x → Pv i σ H → (∀ σ' H', Pv (i + 1) σ' H' → N σ' H') → g x σ H fun σ2 H2 => tb { D with nx := N, ct := N, bk := D.nx } σ2 H2) (hd : ∀ σ H, Pv xs.length σ H → D.nx σ H) :
    ForJ (Itl K a) g tb D σ H := for_list Pv h0 hl (fun i x σ H hx hp => hs i x σ H (Pv (i + 1)) hx hp (fun _ _ h => h)) hd
theorem for_tupN {K : PySem.W.Frag} {a : Addr} {xs : List V} {g : TG} {tb : TS} {D : Ends} {σ : L2.St} {H : Hp} (Pv : Nat → L2.St → Hp → Prop) (h0 : Pv 0 σ H) (hl : ∀ i σ H, i ≤ xs.length → Pv i σ H → SqT K H a xs)
    (hs : ∀ i x σ H (N : L2.St → Hp → Prop), xs[i]? = some x → Pv i σ H → (∀ σ' H', Pv (i + 1) σ' H' → N σ' H') → g x σ H fun σ2 H2 => tb { D with nx := N, ct := N, bk := D.nx } σ2 H2) (hd : ∀ σ H, Pv xs.length σ H → D.nx σ H) :
    ForJ (Itt K a) g tb D σ H := for_tup Pv h0 hl (fun i x σ H hx hp => hs i x σ H (Pv (i + 1)) hx hp (fun _ _ h => h)) hd
theorem for_rangeN {lo : Int} {n : Nat} {g : TG} {tb : TS} {D : Ends} {σ : L2.St} {H : Hp} (Pv : Nat → L2.St → Hp → Prop) (h0 : Pv 0 σ H)
    (hs : ∀ i σ H (N : L2.St → Hp → Prop), i < n → Pv i σ H → (∀ σ' H', Pv (i + 1) σ' H' → N σ' H') → g (.int (lo + i)) σ H fun σ2 H2 => tb { D with nx := N, ct := N, bk := D.nx } σ2 H2) (hd : ∀ σ H, Pv n σ H → D.nx σ H) :
    ForJ (Itr lo n) g tb D σ H := for_range Pv h0 (fun i σ H hx hp => hs i σ H (Pv (i + 1)) hx hp (fun _ _ h => h)) hd
theorem lc_listN {K : PySem.W.Frag} {a : Addr} {xs : List V} {g : TG} {tt : TT} {te : TE} {vs : List Nat} {σ : L2.St} {H1 : Hp} {D : Addr} {Qd : Hp → Prop} (Pv : Nat → Hp → Prop) (h0 : Pv 0 (upd H1 D (.lst []))) (hl : ∀ i H, i ≤ xs.length → Pv i H → SqL K H a xs)
    (hs : ∀ i x H (N : Hp → Prop), xs[i]? = some x → Pv i H → (∀ H', Pv (i + 1) H' → N H') → g x (wipe σ vs) H fun σ2 H2 => wipe σ2 vs = wipe σ vs ∧ tt σ2 H2 fun b H3 =>
      if b = true then te σ2 H3 fun y H4 => ∃ acc, H4 D = some (.lst acc) ∧ acc.length < sizeLine ∧ N (upd H4 D (.lst (acc ++ [y]))) else N H3) (hd : ∀ H, Pv xs.length H → Qd H) :
    LcJ (Itl K a) g tt te vs D σ H1 Qd := lc_list Pv h0 hl (fun i x H hx hp => hs i x H (Pv (i + 1)) hx hp (fun _ h => h)) hd
theorem lc_tupN {K : PySem.W.Frag} {a : Addr} {xs : List V} {g : TG} {tt : TT} {te : TE} {vs : List Nat} {σ : L2.St} {H1 : Hp} {D : Addr} {Qd : Hp → Prop} (Pv : Nat → Hp → Prop) (h0 : Pv 0 (upd H1 D (.lst []))) (hl : ∀ i H, i ≤ xs.length → Pv i H → SqT K H a xs)
    (hs : ∀ i x H (N : Hp → Prop), xs[i]? = some x → Pv i H → (∀ H', Pv (i + 1) H' → N H') → g x (wipe σ vs) H fun σ2 H2 => wipe σ2 vs = wipe σ vs ∧ tt σ2 H2 fun b H3 =>
      if b = true then te σ2 H3 fun y H4 => ∃ acc, H4 D = some (.lst acc) ∧ acc.length < sizeLine ∧ N (upd H4 D (.lst (acc ++ [y]))) else N H3) (hd : ∀ H, Pv xs.length H → Qd H) :
    LcJ (Itt K a) g tt te vs D σ H1 Qd := lc_tup Pv h0 hl (fun i x H hx hp => hs i x H (Pv (i + 1)) hx hp (fun _ h => h)) hd
theorem lc_rangeN {lo : Int} {n : Nat} {g : TG} {tt : TT} {te : TE} {vs : List Nat} {σ : L2.St} {H1 : Hp} {D : Addr} {Qd : Hp → Prop} (Pv : Nat → Hp → Prop) (h0 : Pv 0 (upd H1 D (.lst [])))
    (hs : ∀ i H (N : Hp → Prop), i < n → Pv i H → (∀ H', Pv (i + 1) H' → N H') → g (.int (lo + i)) (wipe σ vs) H fun σ2 H2 => wipe σ2 vs = wipe σ vs ∧ tt σ2 H2 fun b H3 =>
      if b = true then te σ2 H3 fun y H4 => ∃ acc, H4 D = some (.lst acc) ∧ acc.length < sizeLine ∧ N (upd H4 D (.lst (acc ++ [y]))) else N H3) (hd : ∀ H, Pv n H → Qd H) :
    LcJ (Itr lo n) g tt te vs D σ H1 Qd := lc_range Pv h0 (fun i H hx hp => hs i H (Pv (i + 1)) hx hp (fun _ h => h)) hd
theorem cut_by {t u : TS} {D : Ends} {σ : L2.St} {H : Hp} (M : L2.St → Hp → Prop) (h1 : ∀ N : L2.St → Hp → Prop, (∀ σ' H', M σ' H' → N σ' H') → t { D with nx := N } σ H) (h2 : ∀ σ' H', M σ' H' → u D σ' H') : C8.tCut t u D σ H :=
  ⟨M, h1 M (fun _ _ h => h), h2⟩
/-! signs at the head of what is left -/
def hdIn (ch : List Nat) : List Nat → Bool
  | [] => false
  | c :: _ => decide (c ∈ ch)
theorem run_split (ch : List Nat) : ∀ l : List Nat, ∃ a b, l = a ++ b ∧ (∀ c ∈ a, c ∈ ch) ∧ hdIn ch b = false
  | [] => ⟨[], [], rfl, (fun _ h => nomatch h), rfl⟩
  | c :: r => by
    by_cases h : c ∈ ch
    · obtain ⟨a, b, rfl, h1, h2⟩ := run_split ch r
      refine ⟨c :: a, b, rfl, fun d hd => ?_, h2⟩
      rcases List.mem_cons.mp hd with e | e
      · rw [e]; exact h
      · exact h1 d e
    · exact ⟨[], c :: r, rfl, (fun _ h => nomatch h), decide_eq_false h⟩
theorem at_app {pre : List Nat} {c : Nat} {r : List Nat} : atI (pre ++ c :: r) ((pre.length : Nat) : Int) = some c := by
  refine atI_nat ?_
  rw [List.getElem?_append_right (Nat.le_refl _), Nat.sub_self]
  rfl
theorem cut_mid (pre l rest : List Nat) : Txt.slice (S (pre ++ (l ++ rest))) (some ((pre.length : Nat) : Int)) (some ((pre.length + l.length : Nat) : Int)) = S l := by
  rw [← C8.cutS_slice]
  unfold cutS
  rw [HT.sIx_nat, HT.sIx_nat, len_S, S_cps]
  have e1 : min pre.length (pre ++ (l ++ rest)).length = pre.length := by
    rw [List.length_append]; omega
  have e2 : min (pre.length + l.length) (pre ++ (l ++ rest)).length = pre.length + l.length := by
    rw [List.length_append, List.length_append]; omega
  rw [e1, e2, List.drop_left, Nat.add_sub_cancel_left, List.take_left]
end Dw
namespace Dw
open PySem PySem.Spec PyProof.Rows L2 SX
def NxW (W : Nat → L2.St → Hp → Prop) (m : Nat) (tb : TS) (D : Ends) (σ : L2.St) (H1 : Hp) : Prop := ∃ N : L2.St → Hp → Prop, (∀ σ' H', N σ' H' → ∃ m', m' < m ∧ W m' σ' H') ∧ tb { D with nx := N, ct := N, bk := D.nx } σ H1
theorem nxw_of {W : Nat → L2.St → Hp → Prop} {m : Nat} {tb : TS} {D : Ends} {σ : L2.St} {H1 : Hp} (h : ∀ N : L2.St → Hp → Prop, (∀ m' σ' H', m' < m → W m' σ' H' → N σ' H') → tb { D with nx := N, ct := N, bk := D.nx } σ H1) : NxW W m tb D σ H1 :=
  ⟨_, fun _ _ h => h, h (fun σ' H' => ∃ m', m' < m ∧ W m' σ' H') fun m' σ' H' h1 h2 => ⟨m', h1, h2⟩⟩
theorem while_W {c : TT} {tb : TS} {D : Ends} {σ : L2.St} {H : Hp} (W : Nat → L2.St → Hp → Prop) (h0 : ∃ m, W m σ H)
    (hs : ∀ m σ H, W m σ H → c σ H fun b H1 => if b = true then NxW W m tb D σ H1 else D.nx σ H1) : tWhile c tb D σ H := ⟨W, h0, hs⟩
end Dw
namespace Dw
open PySem PySem.Spec PyProof.Rows L2 SX
/-- a run of these signs and figures, a sign first, of at most 12 -/
def run (ch l : List Nat) : Bool := decide (1 ≤ l.length) && decide (l.length ≤ 12) && hdIn ch l && l.all fun c => decide (c ∈ ch ++ DIG)
/-- a value that is no text -/
inductive NoStr (H : Hp) : V → Prop
  | non : NoStr H .non
  | int (i : Int) : NoStr H (.int i)
  | bl (b : Bool) : NoStr H (.bl b)
  | tup {a : Addr} {xs : List V} (h : H a = some (.tup xs)) : NoStr H (.ref a)
theorem kit_str {K : PySem.W.Frag} : PySem.W.kitOne K (.type "str") (.type "str") = some true := kit_ty (by decide +kernel)
theorem NoStr.ty {K : PySem.W.Frag} {H : Hp} {v : V} (h : NoStr H v) : ∃ t, TyX K H v t ∧ PySem.W.kitOne K t (.type "str") = some false := by
  cases h with
  | non => exact ⟨_, .base .non, kit_ty (by decide +kernel)⟩
  | int i => exact ⟨_, .base (.int i), kit_ty (by decide +kernel)⟩
  | bl b => exact ⟨_, .base (.bl b), kit_ty (by decide +kernel)⟩
  | tup h => exact ⟨_, .base (.tup h), kit_ty (by decide +kernel)⟩
theorem gname_iff {l : List Nat} : (run LOW l && !decide (l ∈ RES)) = true ↔ GName l := by
  unfold run
  constructor
  · intro h
    simp only [Bool.and_eq_true, decide_eq_true_eq, List.all_eq_true, Bool.not_eq_true', decide_eq_false_iff_not] at h
    obtain ⟨⟨⟨⟨h1, h2⟩, h3⟩, h4⟩, h5⟩ := h
    refine ⟨?_, h4, h2, h5⟩
    cases l with
    | nil => exact absurd h1 (by decide)
    | cons c r => exact ⟨c, r, rfl, of_decide_eq_true h3⟩
  · rintro ⟨⟨c, r, rfl, hc⟩, h2, h3, h4⟩
    simp only [Bool.and_eq_true, decide_eq_true_eq, List.all_eq_true, Bool.not_eq_true', decide_eq_false_iff_not]
    exact ⟨⟨⟨⟨by simp, h3⟩, decide_eq_true hc⟩, h2⟩, h4⟩
end Dw
namespace Dw
open PySem PySem.Spec PyProof.Rows L2 SX
structure After (l rest : List Nat) : Prop where
  an : ∀ x, l.getLast? = some x → isAN x = true → ∀ y r, rest = y :: r → isAN y = false
  sg : ∀ s ∈ SGN, l.length < s.length → pfx l s = true → pfx s (l ++ rest) = false
theorem an_ld : ∀ c ∈ LOW ++ DIG, isAN c = true := by decide +kernel
theorem an_ud : ∀ c ∈ UPP ++ DIG, isAN c = true := by decide +kernel
theorem After.hd {l rest ch : List Nat} (h : After l rest) (hne : l ≠ []) (al : ∀ c ∈ l, isAN c = true) (hch : ∀ c ∈ ch, isAN c = true) : hdIn ch rest = false := by
  cases rest with
  | nil => rfl
  | cons y r =>
    have h1 := h.an _ (List.getLast?_eq_some_getLast hne) (al _ (List.getLast_mem hne)) y r rfl
    refine decide_eq_false fun hy => ?_
    rw [hch y hy] at h1
    cases h1
theorem res_ok : ∀ l ∈ RES, (∃ c r, l = c :: r ∧ c ∈ LOW) ∧ (∀ c ∈ l, c ∈ LOW ++ DIG) ∧ l.length ≤ 12 := by decide +kernel
theorem sgn_ok : ∀ l ∈ SGN, l ≠ [] ∧ hdIn LOW l = false ∧ hdIn UPP l = false ∧ hdIn DIG l = false ∧ hdIn [32, 10] l = false := by decide +kernel
theorem low_ok : ∀ c ∈ LOW, c ≠ 32 ∧ c ≠ 10 := by decide +kernel
theorem upp_ok : ∀ c ∈ UPP, c ∉ LOW ∧ c ≠ 32 ∧ c ≠ 10 := by decide +kernel
theorem dig_ok : ∀ c ∈ DIG, c ∉ LOW ∧ c ∉ UPP ∧ c ≠ 32 ∧ c ≠ 10 := by decide +kernel
theorem num_ok : ∀ n : Nat, n < 256 → num n ≠ [] ∧ (∀ c ∈ num n, c ∈ DIG) ∧ (num n).length ≤ 3 ∧ ((num n).head? = some 48 → (num n).length = 1) ∧ (num n).all (fun c => decide (48 ≤ c) && decide (c ≤ 57)) = true ∧ NumText.digitsVal (num n) = n := by decide +kernel
/-- a sign stands ahead of the signs that it begins with -/
theorem sgn_first : ∀ (i j : Fin 24), i < j → pfx (SGN.getD i []) (SGN.getD j []) = false := by decide +kernel
theorem num_int {n : Nat} (h : n < 256) : intText? (S (num n)) = some (n : Int) := by
  obtain ⟨h1, h2, h3, h4, h5, h6⟩ := num_ok n h
  rw [int_S h5 h1 (by omega), h6]
end Dw
namespace Dw
open PySem PySem.Spec PyProof.Rows L2 SX
theorem sgn_len24 : SGN.length = 24 := by decide +kernel
theorem sgn_before {i j : Nat} {s l : List Nat} (h : i < j) (hi : SGN[i]? = some s) (hj : SGN[j]? = some l) : pfx s l = false := by
  have h1 : j < 24 := by
    have := (List.getElem?_eq_some_iff.mp hj).1
    rw [sgn_len24] at this
    exact this
  have := sgn_first ⟨i, by omega⟩ ⟨j, h1⟩ h
  rw [List.getD_eq_getElem?_getD, List.getD_eq_getElem?_getD] at this
  rw [show SGN[(⟨i, by omega⟩ : Fin 24).val]? = some s from hi, show SGN[(⟨j, h1⟩ : Fin 24).val]? = some l from hj] at this
  exact this
theorem pfx_short {s l r : List Nat} (h : pfx s (l ++ r) = true) (hl : s.length ≤ l.length) : pfx s l = true := by
  unfold pfx at h ⊢
  rw [List.take_append_of_le_length hl] at h
  exact h
theorem pfx_two {s l r : List Nat} (h : pfx s (l ++ r) = true) (hl : l.length ≤ s.length) : pfx l s = true := by
  unfold pfx at h ⊢
  rw [beq_iff_eq] at h ⊢
  rw [← h, List.take_take, Nat.min_eq_left hl, List.take_left]
end Dw
namespace Dw
open PySem PySem.Spec PyProof.Rows L2 SX
/-- a piece, the space behind it, its token's kind and value -/
structure Itm where
  l : List Nat
  sp : List Nat
  k : List Nat
  v : V
def irow (x : Itm) : TRow := (x.l, x.sp)
abbrev iflat (r : List Itm) : List Nat := flat (r.map irow)
def Goods : List Itm → Prop
  | [] => True
  | x :: r => Piece x.l x.k x.v ∧ Blank x.sp ∧ After x.l (x.sp ++ iflat r) ∧ Goods r
theorem iflat_cons (x : Itm) (r : List Itm) : iflat (x :: r) = x.l ++ (x.sp ++ iflat r) := flat_cons _ _
/-- the tokens of these items stand at these places -/
def Toks (H : Hp) : Nat → List Itm → List Addr → Prop
  | _, [], [] => True
  | n, x :: r, a :: as => H a = some (.tup [.str (S x.k), x.v, .int (n : Nat)]) ∧ Toks H (n + x.l.length + x.sp.length) r as
  | _, _, _ => False
theorem Toks.same {H H' : Hp} (e : Same H H') : ∀ {n : Nat} {r : List Itm} {as : List Addr}, Toks H n r as → Toks H' n r as
  | _, [], [], _ => trivial
  | _, x :: r, a :: as, h => ⟨e _ _ h.1, Toks.same e h.2⟩
  | _, [], _ :: _, h => h.elim
  | _, _ :: _, [], h => h.elim
theorem Toks.but {p : Addr} {H H' : Hp} (e : But p H H') (hp : ∀ xs, H p ≠ some (.tup xs)) : ∀ {n : Nat} {r : List Itm} {as : List Addr}, Toks H n r as → Toks H' n r as
  | _, [], [], _ => trivial
  | _, x :: r, a :: as, h => ⟨e _ _ (fun q => hp _ (q ▸ h.1)) h.1, Toks.but e hp h.2⟩
  | _, [], _ :: _, h => h.elim
  | _, _ :: _, [], h => h.elim
theorem Toks.len {H : Hp} : ∀ {n : Nat} {r : List Itm} {as : List Addr}, Toks H n r as → as.length = r.length
  | _, [], [], _ => rfl
  | _, x :: r, a :: as, h => congrArg (· + 1) (Toks.len h.2)
  | _, [], _ :: _, h => h.elim
  | _, _ :: _, [], h => h.elim
theorem Toks.snoc {H : Hp} {x : Itm} {a : Addr} : ∀ {n : Nat} {r : List Itm} {as : List Addr}, Toks H n r as → H a = some (.tup [.str (S x.k), x.v, .int ((n + (iflat r).length : Nat) : Int)]) → Toks H n (r ++ [x]) (as ++ [a])
  | _, [], [], _, h => ⟨h, trivial⟩
  | n, y :: r, b :: as, h, h2 => ⟨h.1, Toks.snoc h.2 (by
      rw [iflat_cons, List.length_append, List.length_append] at h2
      rw [show n + y.l.length + y.sp.length + (iflat r).length = n + (y.l.length + (y.sp.length + (iflat r).length)) by omega]
      exact h2)⟩
  | _, [], _ :: _, h, _ => h.elim
  | _, _ :: _, [], h, _ => h.elim
theorem Goods.append : ∀ {a b : List Itm}, Goods (a ++ b) → Goods b
  | [], _, h => h
  | _ :: a, _, h => Goods.append (a := a) h.2.2.2
theorem piece_hd {l k : List Nat} {v : V} (h : Piece l k v) : ∃ c r, l = c :: r ∧ c ≠ 32 ∧ c ≠ 10 := by
  cases h with
  | res h =>
    obtain ⟨⟨c, r, e, hc⟩, _⟩ := res_ok l h
    exact ⟨c, r, e, low_ok c hc⟩
  | name h =>
    obtain ⟨c, r, e, hc⟩ := h.hd
    exact ⟨c, r, e, low_ok c hc⟩
  | word h =>
    obtain ⟨c, r, e, hc⟩ := h.hd
    exact ⟨c, r, e, (upp_ok c hc).2⟩
  | num n h =>
    obtain ⟨n1, n2, _⟩ := num_ok n h
    obtain ⟨c, r, e⟩ := cons_of n1
    exact ⟨c, r, e, (dig_ok c (n2 c (by rw [e]; exact List.mem_cons_self))).2.2⟩
  | sign h =>
    obtain ⟨n1, _, _, _, n5⟩ := sgn_ok l h
    obtain ⟨c, r, e⟩ := cons_of n1
    rw [e] at n5
    have : c ∉ [32, 10] := of_decide_eq_false n5
    simp at this
    exact ⟨c, r, e, this⟩
theorem piece_len {l k : List Nat} {v : V} (h : Piece l k v) : l.length ≤ 12 := by
  cases h with
  | res h => exact (res_ok l h).2.2
  | name h => exact h.le
  | word h => exact h.le
  | num n h => have := (num_ok n h).2.2.1; omega
  | sign h => have := sgn_len l h; omega
end Dw
namespace Dw
open PySem PySem.Spec PyProof.Rows L2 SX
theorem Same.new {H H1 : Hp} {t : Addr} {o : HO} (e : Same H H1) (ht : H t = none) : Same H (L2.upd H1 t o) := fun b u h => by
  rw [upd_ne (ne_of_none h ht)]
  exact e b u h
end Dw
namespace Dw
open PySem PySem.Spec PyProof.Rows L2 SX
/-! the tokens as data -/
inductive TV : V → PyData → Prop
  | str (z : Str) : TV (.str z) (.str z)
  | int (i : Int) : TV (.int i) (.int i)
def vD : V → PyData
  | .str z => .str z
  | .int i => .int i
  | _ => .none
theorem piece_vD {l k : List Nat} {v : V} (h : Piece l k v) : TV v (vD v) := by
  cases h <;> constructor
def tokD (n : Nat) (x : Itm) : PyData := .tuple [.str (S x.k), vD x.v, .int (n : Nat)]
def toksD : Nat → List Itm → List PyData
  | _, [] => []
  | n, x :: r => tokD n x :: toksD (n + x.l.length + x.sp.length) r
theorem vD_depth (v : V) : (vD v).depth = 0 := by
  cases v <;> simp [vD, PyData.depth]
theorem ok_S {l : List Nat} (h : ∀ c ∈ l, c < 128) : PyData.strOk (S l) = true := by
  unfold PyData.strOk
  rw [← Array.all_toList]
  exact List.all_eq_true.mpr fun c hc => decide_eq_true (Nat.lt_trans (h c hc) (by decide))
theorem ld_128 : ∀ c ∈ LOW ++ DIG, c < 128 := by decide +kernel
theorem ud_128 : ∀ c ∈ UPP ++ DIG, c < 128 := by decide +kernel
theorem sgn_128 : ∀ s ∈ SGN, ∀ c ∈ s, c < 128 := by decide +kernel
theorem kinds_128 : ∀ s ∈ (["reserved", "name", "word", "number", "sign"] : List String), ∀ c ∈ cs s, c < 128 := by decide +kernel
structure LayI (x : Itm) : Prop where
  k : PyData.strOk (S x.k) = true
  v : (vD x.v).canLay0 = true
theorem piece_lay {l k : List Nat} {v : V} (h : Piece l k v) : PyData.strOk (S k) = true ∧ (vD v).canLay0 = true := by
  cases h with
  | res h => exact ⟨ok_S (kinds_128 "reserved" (by simp)), by simp only [vD, PyData.canLay0]; exact ok_S fun c hc => ld_128 c ((res_ok l h).2.1 c hc)⟩
  | name h => exact ⟨ok_S (kinds_128 "name" (by simp)), by simp only [vD, PyData.canLay0]; exact ok_S fun c hc => ld_128 c (h.all c hc)⟩
  | word h => exact ⟨ok_S (kinds_128 "word" (by simp)), by simp only [vD, PyData.canLay0]; exact ok_S fun c hc => ud_128 c (h.all c hc)⟩
  | num n h => exact ⟨ok_S (kinds_128 "number" (by simp)), by simp only [vD, PyData.canLay0]⟩
  | sign h => exact ⟨ok_S (kinds_128 "sign" (by simp)), by simp only [vD, PyData.canLay0]; exact ok_S fun c hc => sgn_128 l h c hc⟩
theorem toksD_lay : ∀ (n : Nat) (r : List Itm), (∀ x ∈ r, LayI x) → PyData.canLayAll0 (toksD n r) = true
  | _, [], _ => by simp [toksD, PyData.canLayAll0]
  | n, x :: r, h => by
    have h1 := h x List.mem_cons_self
    simp [toksD, tokD, PyData.canLayAll0, PyData.canLay0, h1.k, h1.v, toksD_lay _ r fun y hy => h y (List.mem_cons_of_mem _ hy)]
theorem toksD_depth : ∀ (n : Nat) (r : List Itm), PyData.depthAll (toksD n r) ≤ 1
  | _, [] => by simp [toksD, PyData.depthAll]
  | n, x :: r => by
    have h1 := toksD_depth (n + x.l.length + x.sp.length) r
    simp only [toksD, tokD, PyData.depthAll, PyData.depth, vD_depth x.v]
    omega
theorem toksD_shaped (n : Nat) (r : List Itm) (h : ∀ x ∈ r, LayI x) : SeqAt.shaped (.list (toksD n r)) = true := by
  have h1 := toksD_depth n r
  have h2 : PyData.depth (.list (toksD n r)) ≤ 64 := by
    simp only [PyData.depth]
    omega
  show (PyData.canLay0 (.list (toksD n r)) && decide (PyData.depth (.list (toksD n r)) ≤ 64)) = true
  rw [Bool.and_eq_true]
  exact ⟨by simp only [PyData.canLay0]; exact toksD_lay n r h, decide_eq_true h2⟩
theorem shaped_refl {d : PyData} (h : SeqAt.shaped d = true) : PyData.eqv d d = true := SeqAt.eqv_refl d (SeqAt.canLay_of_shaped h)
theorem toks_dp {K : PySem.W.Frag} {H : Hp} : ∀ {n : Nat} {r : List Itm} {as : List Addr}, (∀ x ∈ r, TV x.v (vD x.v)) → Toks H n r as → DpAll K H (as.map V.ref) (toksD n r)
  | _, [], [], _, _ => .nil
  | n, x :: r, a :: as, hv, h => by
    refine .cons (.tup (SqT.of h.1) (.cons (.str _) (.cons ?_ (.cons (.int _) .nil)))) (toks_dp (fun y hy => hv y (List.mem_cons_of_mem _ hy)) h.2)
    have := hv x List.mem_cons_self
    generalize vD x.v = d at this
    cases hx : x.v <;> rw [hx] at this <;> cases this
    · exact .int _
    · exact .str _
  | _, [], _ :: _, _, h => h.elim
  | _, _ :: _, [], _, h => h.elim
theorem strs_lay : ∀ L : List (List Nat), (∀ l ∈ L, ∀ c ∈ l, c < 128) → PyData.canLayAll0 (L.map fun l => .str (S l)) = true
  | [], _ => by simp [PyData.canLayAll0]
  | l :: L, h => by simp [PyData.canLayAll0, PyData.canLay0, ok_S (h l List.mem_cons_self), strs_lay L fun m hm => h m (List.mem_cons_of_mem _ hm)]
theorem strs_depth : ∀ L : List (List Nat), PyData.depthAll (L.map fun l => .str (S l)) = 0
  | [] => by simp [PyData.depthAll]
  | l :: L => by simp [PyData.depthAll, PyData.depth, strs_depth L]
theorem strs_shaped (L : List (List Nat)) (h : ∀ l ∈ L, ∀ c ∈ l, c < 128) : SeqAt.shaped (.list (L.map fun l => .str (S l))) = true := by
  simp [SeqAt.shaped, PyData.canLay0, PyData.depth, strs_lay L h, strs_depth]
theorem res_128 : ∀ s ∈ RES, ∀ c ∈ s, c < 128 := by decide +kernel
theorem strs_dp {K : PySem.W.Frag} {H : Hp} : ∀ L : List (List Nat), DpAll K H (L.map vS) (L.map fun l => .str (S l))
  | [] => .nil
  | _ :: L => .cons (.str _) (strs_dp L)
/-! pieces as they stand -/
structure Pc where
  r : Addr
  t : Addr
  l : List Nat
  k : List Nat
  v : V
def PcsAt (H : Hp) (ps : List Pc) : Prop := ∀ x ∈ ps, Piece x.l x.k x.v ∧ H x.r = some (.lst [.str (S x.l), .ref x.t]) ∧ H x.t = some (.tup [.str (S x.k), x.v])
theorem PcsAt.same {H H' : Hp} {ps : List Pc} (h : PcsAt H ps) (e : Same H H') : PcsAt H' ps := fun x hx => ⟨(h x hx).1, e _ _ (h x hx).2.1, e _ _ (h x hx).2.2⟩
/-- at p stands none of the pieces' objects -/
theorem PcsAt.but {H H' : Hp} {p : Addr} {ps : List Pc} (h : PcsAt H ps) (e : But p H H') (h1 : ∀ l t, H p ≠ some (.lst [.str l, .ref t])) (h2 : ∀ xs, H p ≠ some (.tup xs)) : PcsAt H' ps := fun x hx =>
  ⟨(h x hx).1, e _ _ (fun q => h1 _ _ (q ▸ (h x hx).2.1)) (h x hx).2.1, e _ _ (fun q => h2 _ (q ▸ (h x hx).2.2)) (h x hx).2.2⟩
theorem PcsAt.pool {H H' : Hp} {p q : Addr} {ns : List Int} {ps : List Pc} (h : PcsAt H ps) (hP : Pool H p q ns) (e : But p H H') : PcsAt H' ps := by
  obtain ⟨_, _, a, k, hp, _⟩ := hP
  refine h.but e (fun l t e2 => ?_) (fun xs e2 => ?_)
  · rw [hp] at e2
    cases e2
  · rw [hp] at e2
    cases e2
theorem Toks.pool {H H' : Hp} {p q : Addr} {ns : List Int} {n : Nat} {r : List Itm} {as : List Addr} (h : Toks H n r as) (hP : Pool H p q ns) (e : But p H H') : Toks H' n r as := by
  obtain ⟨_, _, a, k, hp, _⟩ := hP
  refine h.but e (fun xs e2 => ?_)
  rw [hp] at e2
  cases e2
/-! what stands behind a piece -/
def mkI : List Pc → List TRow → List Itm
  | x :: ps, y :: rs => ⟨x.l, y.2, x.k, x.v⟩ :: mkI ps rs
  | _, _ => []
theorem mkI_rows : ∀ (ps : List Pc) (rows : List TRow), rows.map (·.1) = ps.map (·.l) → (mkI ps rows).map irow = rows
  | [], [], _ => rfl
  | x :: ps, y :: rs, h => by
    rw [List.map_cons, List.map_cons] at h
    obtain ⟨h1, h2⟩ := List.cons.inj h
    show irow _ :: (mkI ps rs).map irow = y :: rs
    rw [mkI_rows ps rs h2]
    show ((x.l, y.2) : TRow) :: rs = y :: rs
    rw [← h1]
  | [], _ :: _, h => by cases h
  | _ :: _, [], h => by cases h
theorem mkI_len : ∀ (ps : List Pc) (rows : List TRow), rows.map (·.1) = ps.map (·.l) → (mkI ps rows).length = ps.length
  | [], [], _ => rfl
  | x :: ps, y :: rs, h => by
    rw [List.map_cons, List.map_cons] at h
    exact congrArg (· + 1) (mkI_len ps rs (List.cons.inj h).2)
  | [], _ :: _, h => by cases h
  | _ :: _, [], h => by cases h
theorem mkI_get : ∀ (ps : List Pc) (rows : List TRow) (i : Nat) (x : Pc) (y : TRow), ps[i]? = some x → rows[i]? = some y → (mkI ps rows)[i]? = some ⟨x.l, y.2, x.k, x.v⟩
  | [], _, _, _, _, h, _ => by simp at h
  | _ :: _, [], _, _, _, _, h => by simp at h
  | a :: ps, b :: rs, 0, x, y, h1, h2 => by
    obtain rfl := Option.some.inj h1
    obtain rfl := Option.some.inj h2
    rfl
  | a :: ps, b :: rs, i + 1, x, y, h1, h2 => mkI_get ps rs i x y h1 h2
theorem an_sp : isAN 32 = false ∧ isAN 10 = false := by decide +kernel
theorem sgn_nosp : ∀ s ∈ SGN, ∀ c ∈ s, c ≠ 32 ∧ c ≠ 10 := by decide +kernel
theorem sgn_take : ∀ s ∈ SGN, s.length = 3 → s.take 2 ∈ SGN := by decide +kernel
theorem piece_ne {l k : List Nat} {v : V} (h : Piece l k v) : l ≠ [] := by
  obtain ⟨c, r, e, _⟩ := piece_hd h
  rw [e]
  exact List.cons_ne_nil _ _
theorem joins_no {a b : List Nat} (h : joins a b = false) : (isAN (a.getLast?.getD 0) && isAN (b.head?.getD 0)) = false ∧ ∀ s ∈ SGN, (decide (a.length < s.length) && pfx a s && pfx s (a ++ b)) = false := by
  unfold joins at h
  rw [Bool.or_eq_false_iff, List.any_eq_false] at h
  exact ⟨h.1, fun s hs => Bool.eq_false_iff.mpr (h.2 s hs)⟩
theorem after_of {l sp rest : List Nat} (hb : ∀ c ∈ sp, c = 32 ∨ c = 10) (hr : sp = [] → rest ≠ [] → ∃ b tl, rest = b ++ tl ∧ b ≠ [] ∧ l ≠ [] ∧ joins l b = false) : After l (sp ++ rest) := by
  constructor
  · intro x hx hax y r hy
    cases sp with
    | cons c sp' =>
      obtain rfl : c = y := (List.cons.inj hy).1
      rcases hb c List.mem_cons_self with e | e
      · rw [e]; exact an_sp.1
      · rw [e]; exact an_sp.2
    | nil =>
      rw [List.nil_append] at hy
      obtain ⟨b, tl, e, hbn, _, hj⟩ := hr rfl (by rw [hy]; exact List.cons_ne_nil _ _)
      obtain ⟨c, b', rfl⟩ := cons_of hbn
      rw [e] at hy
      obtain rfl : c = y := (List.cons.inj hy).1
      have h1 := (joins_no hj).1
      rw [hx] at h1
      simpa [hax] using h1
  · intro s hs hlt hp
    cases hc : pfx s (l ++ (sp ++ rest)) with
    | false => rfl
    | true =>
      exfalso
      have hs3 := sgn_len s hs
      obtain ⟨u, hu⟩ := pfx_iff.mp hp
      have hune : u ≠ [] := fun e => by rw [hu, e, List.append_nil] at hlt; exact Nat.lt_irrefl _ hlt
      obtain ⟨w, hw⟩ := pfx_iff.mp hc
      rw [hu, List.append_assoc] at hw
      have hw2 := List.append_cancel_left hw
      obtain ⟨d, u', rfl⟩ := cons_of hune
      cases sp with
      | cons c sp' =>
        have e : c = d := (List.cons.inj hw2).1
        have h1 := sgn_nosp s hs d (by rw [hu]; simp)
        rcases hb c List.mem_cons_self with e2 | e2
        · exact h1.1 (by rw [← e, e2])
        · exact h1.2 (by rw [← e, e2])
      | nil =>
        rw [List.nil_append] at hw2 hc
        obtain ⟨b, tl, e, hbn, hln, hj⟩ := hr rfl (by rw [hw2]; exact List.cons_ne_nil _ _)
        have hno := (joins_no hj).2
        by_cases hle : s.length ≤ (l ++ b).length
        · have h3 := hno s hs
          rw [decide_eq_true hlt, hp] at h3
          rw [e, ← List.append_assoc] at hc
          rw [pfx_short hc hle] at h3
          cases h3
        · have l1 : 1 ≤ l.length := List.length_pos_iff.mpr hln
          have b1 : 1 ≤ b.length := List.length_pos_iff.mpr hbn
          rw [List.length_append] at hle
          have hs3' : s.length = 3 := by omega
          have hll : l.length = 1 := by omega
          have hbb : b.length = 1 := by omega
          have ht := sgn_take s hs hs3'
          have et : s.take 2 = l ++ b := by
            rw [e, ← List.append_assoc] at hc
            obtain ⟨w2, hw3⟩ := pfx_iff.mp hc
            have : (l ++ b ++ tl).take 2 = l ++ b := by
              rw [List.take_append_of_le_length (by rw [List.length_append]; omega), List.take_of_length_le (by rw [List.length_append]; omega)]
            rw [← this, hw3, List.take_append_of_le_length (by omega)]
          have h3 := hno _ ht
          rw [et] at h3
          have e1 : decide (l.length < (l ++ b).length) = true := decide_eq_true (by rw [List.length_append]; omega)
          have e2 : pfx l (l ++ b) = true := pfx_iff.mpr ⟨b, rfl⟩
          have e3 : pfx (l ++ b) (l ++ b) = true := pfx_iff.mpr ⟨[], by simp⟩
          rw [e1, e2, e3] at h3
          cases h3
theorem goods_of : ∀ (ps : List Pc) (rows : List TRow), rows.map (·.1) = ps.map (·.l) → (∀ x ∈ rows, Blank x.2) → Sepd rows → (∀ x ∈ ps, Piece x.l x.k x.v) → Goods (mkI ps rows)
  | [], [], _, _, _, _ => trivial
  | x :: ps, y :: rs, h, hb, hs, hp => by
    have h0 := h
    rw [List.map_cons, List.map_cons] at h
    obtain ⟨h1, h2⟩ := List.cons.inj h
    refine ⟨hp x List.mem_cons_self, hb y List.mem_cons_self, ?_, goods_of ps rs h2 (fun z hz => hb z (List.mem_cons_of_mem _ hz)) (fun k a b ha hb' => hs (k + 1) a b ha hb') (fun z hz => hp z (List.mem_cons_of_mem _ hz))⟩
    show After x.l (y.2 ++ flat ((mkI ps rs).map irow))
    rw [mkI_rows ps rs h2]
    refine after_of (hb y List.mem_cons_self).1 (fun hsp hne => ?_)
    cases rs with
    | nil => exact absurd rfl hne
    | cons z rs' =>
      cases ps with
      | nil => cases h2
      | cons w ps' =>
        have hw : z.1 = w.l := (List.cons.inj h2).1
        refine ⟨z.1, z.2 ++ flat rs', flat_cons _ _, by rw [hw]; exact piece_ne (hp w (by simp)), piece_ne (hp x (by simp)), ?_⟩
        cases hj : joins x.l z.1 with
        | false => rfl
        | true => exact absurd hsp (hs 0 y z rfl rfl (by rw [h1]; exact hj))
  | [], _ :: _, h, _, _, _ => by cases h
  | _ :: _, [], h, _, _, _ => by cases h
theorem places_get : ∀ (n : Nat) (rows : List TRow) (i : Nat), i < rows.length → (places n rows)[i]? = some (.int ((n + (flat (rows.take i)).length : Nat) : Int))
  | n, y :: r, 0, _ => by simp [places, flat]
  | n, y :: r, i + 1, h => by
    show (places (n + y.1.length + y.2.length) r)[i]? = _
    rw [places_get _ r i (Nat.lt_of_succ_lt_succ h), List.take_succ_cons, flat_cons, List.length_append, List.length_append]
    rw [show n + y.1.length + y.2.length + (flat (r.take i)).length = n + (y.1.length + (y.2.length + (flat (r.take i)).length)) by omega]
theorem goods_mem : ∀ {is : List Itm}, Goods is → ∀ x ∈ is, Piece x.l x.k x.v
  | [], _, _, h => nomatch h
  | y :: r, g, x, h => by
    rcases List.mem_cons.mp h with e | e
    · rw [e]; exact g.1
    · exact goods_mem g.2.2.2 x e
end Dw
namespace Dw
open PySem PySem.Spec PyProof.Rows L2 SX
/-! rules that name the written part K itself (for a comprehension's block) -/
section
variable {X : Cx} (K : PySem.W.Frag)
theorem ixL (h : X.K = K := by rfl) : IxR X (rIxL K) := h ▸ ix_list
theorem ixT (h : X.K = K := by rfl) : IxR X (rIxT K) := h ▸ ix_tup
def rLen (K : PySem.W.Frag) : List V → Hp → VK → Prop := fun xs H Q => ∃ p ys, xs = [.ref p] ∧ (SqL K H p ys ∨ SqT K H p ys) ∧ Q (.int ys.length) H
theorem lenS (h : X.K = K := by rfl) : CallR X (.builtin "len") (rLen K) := h ▸ call_len_seq
theorem inQ (h : X.K = K := by rfl) : OpR X (compareOp .In) (rIn K false) := h ▸ op_in_seq
theorem notInQ (h : X.K = K := by rfl) : OpR X (compareOp .NotIn) (rIn K true) := h ▸ op_notIn_seq
theorem catA (h : X.K = K := by rfl) : OpR X (binaryOp .Add) (rCatA K) := h ▸ op_catA
theorem eqDK (hu : X.A.units + 64 < cLine) (h : X.K = K := by rfl) : OpR X (compareOp .Eq) (rEqD K) := h ▸ op_eqD hu
theorem neDK (hu : X.A.units + 64 < cLine) (h : X.K = K := by rfl) : OpR X (compareOp .NotEq) (rNeD K) := h ▸ op_neD hu
def rListOf (K : PySem.W.Frag) : List V → Hp → VK → Prop := fun xs H Q => ∃ p ys, xs = [.ref p] ∧ (SqL K H p ys ∨ SqT K H p ys) ∧ ∀ l, H l = none → Q (.ref l) (upd H l (.lst ys))
theorem listOf (h : X.K = K := by rfl) : CallR X (.type "list") (rListOf K) := h ▸ call_list_of
def rTupOf (K : PySem.W.Frag) : List V → Hp → VK → Prop := fun xs H Q => ∃ p ys, xs = [.ref p] ∧ ((SqL K H p ys ∧ ∀ l, H l = none → Q (.ref l) (upd H l (.tup ys))) ∨ (SqT K H p ys ∧ Q (.ref p) H))
theorem tupOf (h : X.K = K := by rfl) : CallR X (.type "tuple") (rTupOf K) := h ▸ call_tuple_of
theorem isiK (h : X.K = K := by rfl) : CallR X (.builtin "isinstance") (rIsi K) := h ▸ call_isi
end
end Dw
namespace Dw
open PySem PySem.Spec PyProof.Rows L2 SX
theorem isi_of {K : PySem.W.Frag} {H : Hp} {Q : VK} {x : V} {t : Value} {c : String} {b : Bool} (ty : TyX K H x t) (k : PySem.W.kitOne K t (.type c) = some b) (q : Q (.bl b) H) : rIsi K [x, .ty c] H Q := ⟨x, .ty c, t, .type c, b, rfl, .ty _, ty, k, q⟩
end Dw
namespace Dw
open PySem PySem.Spec PyProof.Rows L2 SX
theorem Toks.get {H : Hp} : ∀ {n : Nat} {r : List Itm} {as : List Addr} {i : Nat} {x : Itm}, Toks H n r as → r[i]? = some x → ∃ (a : Addr) (m : Nat), as[i]? = some a ∧ H a = some (.tup [.str (S x.k), x.v, .int (m : Nat)])
  | _, [], [], _, _, _, h => by simp at h
  | n, y :: r, a :: as, 0, x, h, e => by
    obtain rfl := Option.some.inj e
    exact ⟨a, n, rfl, h.1⟩
  | n, y :: r, a :: as, i + 1, x, h, e => by
    obtain ⟨b, m, h1, h2⟩ := Toks.get (r := r) (i := i) (x := x) h.2 (by simpa using e)
    exact ⟨b, m, by simpa using h1, h2⟩
  | _, [], _ :: _, _, _, h, _ => h.elim
  | _, _ :: _, [], _, _, h, _ => h.elim
theorem run_no {l : List Nat} (h : hdIn LOW l = false) : (run LOW l && !decide (l ∈ RES)) = false := by
  unfold run
  rw [h]
  simp
theorem kinds_ne : cs "reserved" ≠ cs "name" ∧ cs "word" ≠ cs "name" ∧ cs "number" ≠ cs "name" ∧ cs "sign" ≠ cs "name" := by decide +kernel
theorem piece_name {l k : List Nat} {v : V} (h : Piece l k v) : (run LOW l && !decide (l ∈ RES)) = decide (k = cs "name") := by
  cases h with
  | res h =>
    rw [decide_eq_true h, decide_eq_false kinds_ne.1]
    simp
  | name h => rw [gname_iff.mpr h, decide_eq_true rfl]
  | word h =>
    obtain ⟨c, r, e, hc⟩ := h.hd
    rw [decide_eq_false kinds_ne.2.1, run_no]
    rw [e]
    exact decide_eq_false (upp_ok c hc).1
  | num n h =>
    obtain ⟨n1, n2, _⟩ := num_ok n h
    obtain ⟨c, r, e⟩ := cons_of n1
    rw [decide_eq_false kinds_ne.2.2.1, run_no]
    rw [e]
    exact decide_eq_false (dig_ok c (n2 c (by rw [e]; exact List.mem_cons_self))).1
  | sign h =>
    rw [decide_eq_false kinds_ne.2.2.2, run_no (sgn_ok l h).2.1]
theorem tv_bool {K : PySem.W.Frag} {H : Hp} {v : V} {d : PyData} (h : TV v d) : ∃ t, TyX K H v t ∧ PySem.W.kitOne K t (.type "bool") = some false := by
  cases h with
  | str z => exact ⟨_, .base (.str _), kit_ty (by decide +kernel)⟩
  | int i => exact ⟨_, .base (.int _), kit_ty (by decide +kernel)⟩
theorem kit_list {K : PySem.W.Frag} : PySem.W.kitOne K (.type "list") (.type "list") = some true := kit_ty (by decide +kernel)
/-- no names -/
def OTH : List (List Nat) := [cs "", cs "1a", List.replicate 13 97, cs "a b", cs "aB", cs "A", cs "a_"]
theorem oth_no : ∀ l ∈ OTH, (run LOW l && !decide (l ∈ RES)) = false ∧ l.length ≤ 1000 := by decide +kernel
theorem mul_a : Txt.mul (S (cs "a")) 13 = S (List.replicate 13 97) := by decide +kernel
theorem mul_z : Txt.mul (S (cs "z")) 12 = S (List.replicate 12 122) := by decide +kernel
theorem run_z : (run LOW (List.replicate 12 122) && !decide (List.replicate 12 122 ∈ RES)) = true := by decide +kernel
end Dw
namespace Dw
open PySem PySem.Spec PyProof.Rows L2 SX
/-! bad pieces -/
def BADC : List Nat := cs "!\"#$'./?@\\^_`"
inductive Bad : List Nat → Prop
  | char {c : Nat} (h : c ∈ BADC) : Bad [c]
  | longN {l : List Nat} (h0 : hdIn LOW l = true) (h1 : ∀ c ∈ l, c ∈ LOW ++ DIG) (h2 : 12 < l.length) (h3 : l.length ≤ 20) : Bad l
  | longW {l : List Nat} (h0 : hdIn UPP l = true) (h1 : ∀ c ∈ l, c ∈ UPP ++ DIG) (h2 : 12 < l.length) (h3 : l.length ≤ 20) : Bad l
  | mixN {a b : List Nat} (h0 : hdIn LOW a = true) (h1 : ∀ c ∈ a, c ∈ LOW ++ DIG) (h2 : hdIn UPP b = true) (h3 : a.length ≤ 10) (h4 : b.length ≤ 10) (h5 : ∀ c ∈ b, isAN c = true) : Bad (a ++ b)
  | mixW {a b : List Nat} (h0 : hdIn UPP a = true) (h1 : ∀ c ∈ a, c ∈ UPP ++ DIG) (h2 : hdIn LOW b = true) (h3 : a.length ≤ 10) (h4 : b.length ≤ 10) (h5 : ∀ c ∈ b, isAN c = true) : Bad (a ++ b)
  | zeros {l : List Nat} (h0 : l.head? = some 48) (h1 : ∀ c ∈ l, c ∈ DIG) (h2 : 1 < l.length) (h3 : l.length ≤ 30) : Bad l
  | big {l : List Nat} (h0 : l ≠ []) (h1 : ∀ c ∈ l, c ∈ DIG) (h2 : l.length ≤ 30) (n : Nat) (h3 : intText? (S l) = some (n : Int)) (h4 : 255 < n) : Bad l
  | letr {a b : List Nat} (h0 : a ≠ []) (h1 : ∀ c ∈ a, c ∈ DIG) (h2 : hdIn (LOW ++ UPP) b = true) (h3 : a.length ≤ 10) (h4 : b.length ≤ 10) (h5 : ∀ c ∈ b, isAN c = true) : Bad (a ++ b)
end Dw
namespace Dw
open PySem PySem.Spec PyProof.Rows L2 SX
/-! max(list, default=d) -/
theorem mxk (a v : Value) : argsOk "max" ⟨[a], [(Str.ofString "default", v)]⟩ := by unfold argsOk; kernel_rfl
theorem mxn : (toString "max" ++ toString ".loop" : String) = "max.loop" := by decide
section
variable {pr : Program} {w : World} {A : Around} {I : Addr} {fp wr : List Addr} {n : Nat} {P : Nat → Value → Prop} {St : Nat → Heap → Prop} {R : Result → Shared → Prop}
/-- what the loop leaves to be shown -/
def MxEnd (P : Nat → Value → Prop) (wr : List Addr) (n : Nat) (bt : Nat → Nat → Bool) (S : Addr) (R : Result → Shared → Prop) (s : Shared) : Prop :=
  ∀ v h' tk, P (argBest bt (n - 1)) v → (∀ b o, b ∉ wr → b ≠ S → s.heap.get? b = some o → h'.get? b = some o) → R (.ok (.ret v)) { s with heap := h', toks := tk }
theorem mx_turn (W : Walks pr w A.in1 I fp wr n P St) (bt : Nat → Nat → Bool) (cm : CmpOf pr w A.in1 .Gt P bt) (d : Value) (S : Addr) (nS : S ∉ fp) :
    ∀ (k j : Nat) (s : Shared) (x : Value) (c : Nat), n - (j + 1) = k → j + 1 ≤ n → St (j + 1) s.heap → P (argBest bt j) x → s.heap.get? S = some ⟨.type "list", none, .seq #[x, x] c, #[]⟩ → MxEnd P wr n bt S R s →
      codeAny (model pr w) A (.builtin "max.loop" ⟨[.ref I, .none, .ref S], [(Str.ofString "default", d)]⟩) R s := by
  have nW : S ∉ wr := fun q => nS (W.sub _ q)
  intro k
  induction k with
  | zero =>
    intro j s x c e0 lj st px hS fin
    have ej : j + 1 = n := by omega
    refine codeAny_builtin PySem.F.entry_max_loop ?_; rw [Around.under_plainId PySem.F.plain_max_loop _]
    show wpAny _ A.in1 (seqItems? (.ref S) >>= _) _ _ s
    refine wpAny_bind (wpAny_seqItems hS rfl (?_ : wpAny _ A.in1 (tryCatch (pyNext (.ref I)) _ >>= _) _ _ s))
    refine wpAny_bind (wpAny_tryCatch (W.done s _ _ (ej ▸ st) fun h1 tk kp => ?_))
    have hS1 := kp S _ nW hS
    refine (wpAny_bind ?_ : wpAny _ A.in1 (updateSeq S (fun _ => #[]) >>= _) _ _ _)
    refine wpAny_updateSeq hS1 rfl (wpAny_bind (wpAny_letGo (wpAny_pure ?_)))
    exact fin x _ tk (by rw [← ej]; exact px) fun b o bw bS q => (Heap.get?_update_other _ _ (Ne.symm bS)).trans (kp b o bw q)
  | succ k ih =>
    intro j s x c e0 lj st px hS fin
    have lt : j + 1 < n := by omega
    refine codeAny_builtin PySem.F.entry_max_loop ?_; rw [Around.under_plainId PySem.F.plain_max_loop _]
    show wpAny _ A.in1 (seqItems? (.ref S) >>= _) _ _ s
    refine wpAny_bind (wpAny_seqItems hS rfl (?_ : wpAny _ A.in1 (tryCatch (pyNext (.ref I)) _ >>= _) _ _ s))
    refine wpAny_bind (wpAny_tryCatch (W.item (j + 1) s _ _ lt st fun y h1 tk py st1 kp => ?_))
    have hS1 := kp S _ nW hS
    refine (wpAny_bind (wpAny_tryCatch (wpAny_holding (wpAny_bind (cm (j + 1) (argBest bt j) y x _ _ _ py px ?_)))) : wpAny _ A.in1 (tryCatch (holding [y, y] (richCompare .Gt y x >>= _)) _ >>= _) _ _ _)
    refine wpAny_bind (wpAny_holding (wpAny_truthy_bool (wpAny_bind (wpAny_letGo (wpAny_pure ?_)))))
    cases hb : bt (j + 1) (argBest bt j) with
    | true =>
      simp only [if_true]
      refine wpAny_bind (wpAny_updateSeq hS1 rfl (wpAny_bind (wpAny_letGo ?_)))
      rw [mxn]
      refine (wpAny_pure ⟨plainId_quiet PySem.F.plain_max_loop _, ih (j + 1) _ y _ (by omega) lt (W.frame _ _ _ st1 fun b bf o q => ?_) (by simp only [argBest, hb, if_true]; exact py) (Heap.get?_update_self _ hS1 rfl) fun v h2 tk2 pv kp2 => ?_⟩)
      · exact (Heap.get?_update_other _ _ (fun q : S = b => nS (q ▸ bf))).trans q
      · exact fin v h2 tk2 pv fun b o bw bS q => kp2 b o bw bS ((Heap.get?_update_other _ _ (Ne.symm bS)).trans (kp b o bw q))
    | false =>
      simp only [Bool.false_eq_true, if_false]
      refine wpAny_bind (wpAny_letGo ?_)
      rw [mxn]
      refine (wpAny_pure ⟨plainId_quiet PySem.F.plain_max_loop _, ih (j + 1) _ x c (by omega) lt st1 (by simp only [argBest, hb, Bool.false_eq_true, if_false]; exact px) hS1 fun v h2 tk2 pv kp2 => ?_⟩)
      exact fin v h2 tk2 pv fun b o bw bS q => kp2 b o bw bS (kp b o bw q)
theorem mx_first (W : Walks pr w A.in1 I fp wr n P St) (bt : Nat → Nat → Bool) (cm : CmpOf pr w A.in1 .Gt P bt) (d : Value) (S : Addr) (nS : S ∉ fp) {s : Shared} {c : Nat} (st : St 0 s.heap) (hS : s.heap.get? S = some ⟨.type "list", none, .seq #[] c, #[]⟩)
    (no : n = 0 → ∀ h' tk, (∀ b o, b ∉ wr → b ≠ S → s.heap.get? b = some o → h'.get? b = some o) → R (.ok (.ret d)) { s with heap := h', toks := tk })
    (fin : 0 < n → MxEnd P wr n bt S R s) :
    codeAny (model pr w) A (.builtin "max.loop" ⟨[.ref I, .none, .ref S], [(Str.ofString "default", d)]⟩) R s := by
  have nW : S ∉ wr := fun q => nS (W.sub _ q)
  refine codeAny_builtin PySem.F.entry_max_loop ?_; rw [Around.under_plainId PySem.F.plain_max_loop _]
  show wpAny _ A.in1 (seqItems? (.ref S) >>= _) _ _ s
  refine wpAny_bind (wpAny_seqItems hS rfl (?_ : wpAny _ A.in1 (tryCatch (pyNext (.ref I)) _ >>= _) _ _ s))
  rcases Nat.eq_zero_or_pos n with h0 | h0
  · subst h0
    refine wpAny_bind (wpAny_tryCatch (W.done s _ _ st fun h1 tk kp => ?_))
    refine (wpAny_bind (wpAny_rule ?_) : wpAny _ A.in1 (rule _ >>= _) _ _ _)
    exact wpAny_pure (no rfl h1 tk fun b o bw bS q => kp b o bw q)
  · refine wpAny_bind (wpAny_tryCatch (W.item 0 s _ _ h0 st fun y h1 tk py st1 kp => ?_))
    have hS1 := kp S _ nW hS
    refine (wpAny_bind ?_ : wpAny _ A.in1 (updateSeq S (fun _ => #[y, y]) >>= _) _ _ _)
    refine wpAny_updateSeq hS1 rfl ?_
    rw [mxn]
    refine (wpAny_pure ⟨plainId_quiet PySem.F.plain_max_loop _, mx_turn W bt cm d S nS _ 0 _ y _ rfl h0 (W.frame _ _ _ st1 fun b bf o q => ?_) py (Heap.get?_update_self _ hS1 rfl) fun v h2 tk2 pv kp2 => ?_⟩)
    · exact (Heap.get?_update_other _ _ (fun q : S = b => nS (q ▸ bf))).trans q
    · exact fin h0 v h2 tk2 pv fun b o bw bS q => kp2 b o bw bS ((Heap.get?_update_other _ _ (Ne.symm bS)).trans (kp b o bw q))
theorem mx_ints {E : Value → Shared → Prop} {s : Shared} {l : Addr} {xs : Array (Int × Tok)} {d : Value} {Q : Value → Shared → Prop} (hh : A.handled = none) (hl : s.heap.IsList l (intItems xs))
    (no : xs.size = 0 → ∀ h' tk, (∀ b o, s.heap.get? b = some o → h'.get? b = some o) → Q d { s with heap := h', toks := tk })
    (fin : ∀ v h' tk, 0 < xs.size → (intItems xs)[argBest (fun i j => decide (numAt xs i > numAt xs j)) (xs.size - 1)]? = some v → (∀ b o, s.heap.get? b = some o → h'.get? b = some o) → Q v { s with heap := h', toks := tk }) :
    wpAny (model pr w) A (call (.builtin "max") [.ref l] [(Str.ofString "default", d)]) Q E s := by
  refine PyProof.Rows.kmb_tree PySem.F.kind_max PySem.F.plain_max PySem.F.entry_max (mxk _ _) ?_
  have hlt : l < s.heap.objs.size := let ⟨_, e, _⟩ := hl; Heap.lt_size e
  refine (wpAny_bind (wpAny_of_eq (show Builtin.Builtins.bindParams "max" ["key", "default"] 0 ⟨[], [(Str.ofString "default", d)]⟩ = pure [none, some d] from rfl) ?_) : wpAny _ A.in1 (Builtin.Builtins.bindParams "max" ["key", "default"] 0 ⟨[], [(Str.ofString "default", d)]⟩ >>= _) _ _ s)
  refine wpAny_bind (wpAny_pure (wpAny_bind (iter_intList hl fun s2 e st bd nl => ?_)))
  subst e
  refine wpAny_bind (wpAny_newObj_type ?_)
  rw [mxn]
  refine wpAny_pure ⟨plainId_quiet PySem.F.plain_max_loop _, ?_⟩
  have W := Walks.list (prog := pr) (w := w) (A := A.in1) hh s.heap.objs.size l nl (intItems xs)
  have sz : (intItems xs).size = xs.size := by simp [intItems]
  have old := fun {h' : Heap} kp => old_kept (s := s) (l := l) (h' := h') kp
  have nS : (s.heap.push { cls := .type "list_iterator", data := .fields #[.ref l, .int 0 0] }).objs.size ∉ [s.heap.objs.size, l] := fun hm => Nat.lt_irrefl _ (bd _ hm)
  refine mx_first W (fun i j => decide (numAt xs i > numAt xs j)) (CmpOf.ints_gt (numAt xs) fun _ _ => intItems_at) d _ nS (W.frame _ _ _ st fun b _ o q => Heap.get?_push_of_some _ q) (Heap.get?_push_size _ rfl) (fun z h' tk kp => ?_) fun z v h' tk pv kp => ?_
  · exact no (sz ▸ z) h' tk (old fun b o bw q => kp b o bw (Nat.ne_of_lt (Heap.lt_size q)) (Heap.get?_push_of_some _ q))
  · exact fin v h' tk (sz ▸ z) (by rw [sz] at pv; exact pv) (old fun b o bw q => kp b o bw (Nat.ne_of_lt (Heap.lt_size q)) (Heap.get?_push_of_some _ q))
end
/-- max of a list of ints, with a default -/
def rMaxDf (K : PySem.W.Frag) : List V → List V → Hp → VK → Prop := fun vs zs H Q => ∃ (a : Addr) (ns : List Int) (d : Int), vs = [V.ref a] ∧ zs = [.int d] ∧ SqL K H a (ns.map V.int) ∧ ∀ m, ((ns = [] ∧ m = d) ∨ m ∈ ns) → (∀ y ∈ ns, y ≤ m) → Q (.int m) H
theorem cr_maxDf {X : Cx} (K : PySem.W.Frag) (hc : X.calm = true := by rfl) (hK : X.K = K := by rfl) : CallRK X (.builtin "max") ["default"] (rMaxDf K) := by
  subst hK
  intro pins s σ H xs zs us ws Q I r rz h
  obtain ⟨a, ns, d, rfl, rfl, hs, q⟩ := h
  obtain ⟨its, rv, hl, _⟩ := I.list hs
  rw [Vals.ref1 r]
  cases rz with
  | cons e er =>
  cases er
  obtain ⟨td, rfl⟩ := e
  obtain ⟨xs, e⟩ := rv.ints.allInts.items
  have hn : numsOf (intItems xs).toList = ns := by rw [← e]; exact rv.ints.numsOf
  rw [nums_intItems] at hn
  have hl2 := hl.isList
  rw [e] at hl2
  subst hn
  refine mx_ints (I.ok.hd hc) hl2 (fun z h' tk hk => ?_) fun v h' tk z hv hk => ?_
  · have ez : xs = #[] := Array.eq_empty_of_size_eq_zero z
    subst ez
    exact ⟨.int d, H, I.kept hk, ⟨_, rfl⟩, q d (.inl ⟨rfl, rfl⟩) (fun y hy => nomatch hy)⟩
  · obtain ⟨t, rfl⟩ := intItems_at hv
    obtain ⟨h1, h2⟩ := argBest_gt (numAt xs) (xs.size - 1)
    refine ⟨.int _, H, I.kept hk, ⟨_, rfl⟩, q _ (.inr ?_) fun y hy => ?_⟩
    · rw [numAt_eq]; exact PySem.getD_mem (by rw [List.length_map, Array.length_toList]; omega)
    · obtain ⟨j, hj, rfl⟩ := mem_getD hy
      rw [List.length_map, Array.length_toList] at hj
      rw [← numAt_eq]; exact h2 j (by omega)
end Dw
namespace Dw
open PySem PySem.Spec PyProof.Rows L2 SX
abbrev nv (n : Nat) : V := .int (n : Int)
/-! digits and the numbers that they stand for -/
def lo : List Nat → Nat
  | [] => 0
  | d :: r => d + 2 * lo r
def Bits (ds : List Nat) : Prop := ∀ d ∈ ds, d < 2
theorem lo_app : ∀ a b : List Nat, lo (a ++ b) = lo a + 2 ^ a.length * lo b
  | [], b => by simp [lo]
  | d :: a, b => by
    show d + 2 * lo (a ++ b) = d + 2 * lo a + 2 ^ (a.length + 1) * lo b
    rw [lo_app a b, Nat.pow_succ, Nat.mul_add, Nat.mul_comm (2 ^ a.length) 2, Nat.mul_assoc]
    omega
theorem lo_lt : ∀ {ds : List Nat}, Bits ds → lo ds < 2 ^ ds.length
  | [], _ => by simp [lo]
  | d :: r, h => by
    have h1 := lo_lt (ds := r) fun x hx => h x (List.mem_cons_of_mem _ hx)
    have h2 := h d List.mem_cons_self
    show d + 2 * lo r < 2 ^ (r.length + 1)
    rw [Nat.pow_succ]
    omega
theorem lo_bit : ∀ {ds : List Nat} (k : Nat), Bits ds → lo ds / 2 ^ k % 2 = ds.getD k 0
  | [], k, _ => by simp [lo]
  | d :: r, 0, h => by
    have h2 := h d List.mem_cons_self
    show (d + 2 * lo r) / 1 % 2 = d
    omega
  | d :: r, k + 1, h => by
    have h1 := lo_bit (ds := r) k fun x hx => h x (List.mem_cons_of_mem _ hx)
    have h2 := h d List.mem_cons_self
    show (d + 2 * lo r) / 2 ^ (k + 1) % 2 = r.getD k 0
    rw [Nat.pow_succ, Nat.mul_comm (2 ^ k) 2, ← Nat.div_div_eq_div_mul]
    have : (d + 2 * lo r) / 2 = lo r := by omega
    rw [this, h1]
def bitsL (n w : Nat) : List Nat := (List.range w).map fun k => n / 2 ^ k % 2
theorem bitsL_len (n w : Nat) : (bitsL n w).length = w := by simp [bitsL]
theorem bitsL_bits (n w : Nat) : Bits (bitsL n w) := fun d h => by
  obtain ⟨k, _, rfl⟩ := List.mem_map.mp h
  exact Nat.mod_lt _ (by decide)
theorem bitsL_zero (w : Nat) : bitsL 0 w = List.replicate w 0 := by
  refine List.ext_getElem (by simp [bitsL]) fun i h1 h2 => ?_
  simp [bitsL]
theorem bitsL_succ (n w : Nat) : bitsL n (w + 1) = n % 2 :: bitsL (n / 2) w := by
  unfold bitsL
  rw [List.range_succ_eq_map, List.map_cons, List.map_map]
  congr 1
  · simp
  · refine List.map_congr_left fun k _ => ?_
    show n / 2 ^ (k + 1) % 2 = n / 2 / 2 ^ k % 2
    rw [Nat.pow_succ, Nat.mul_comm, Nat.div_div_eq_div_mul]
theorem lo_bitsL : ∀ (n w : Nat), lo (bitsL n w) = n % 2 ^ w
  | n, 0 => by simp [bitsL, lo, Nat.mod_one]
  | n, w + 1 => by
    rw [bitsL_succ]
    show n % 2 + 2 * lo (bitsL (n / 2) w) = _
    rw [lo_bitsL (n / 2) w, Nat.pow_succ, Nat.mul_comm (2 ^ w) 2, Nat.mod_mul]
theorem lo_bitsL_of {n w : Nat} (h : n < 2 ^ w) : lo (bitsL n w) = n := by rw [lo_bitsL, Nat.mod_eq_of_lt h]
theorem bitsL_lo {ds : List Nat} (h : Bits ds) : bitsL (lo ds) ds.length = ds := by
  refine List.ext_getElem (by simp [bitsL]) fun i h1 h2 => ?_
  simp only [bitsL, List.getElem_map, List.getElem_range]
  rw [lo_bit i h, List.getD_eq_getElem?_getD, List.getElem?_eq_getElem h2]
  rfl
/-- the sum of the digits' values -/
theorem lo_sum : ∀ (ds : List Nat) (m : Nat), ((List.range ds.length).map fun i => ((ds.getD i 0 : Nat) : Int) * 2 ^ (i + m)).sum = (lo ds : Int) * 2 ^ m
  | [], m => by simp [lo]
  | d :: r, m => by
    rw [List.length_cons, List.range_succ_eq_map, List.map_cons, List.map_map, List.sum_cons]
    have h := lo_sum r (m + 1)
    have e : (List.map ((fun i => (((d :: r).getD i 0 : Nat) : Int) * 2 ^ (i + m)) ∘ Nat.succ) (List.range r.length)) = (List.range r.length).map fun i => ((r.getD i 0 : Nat) : Int) * 2 ^ (i + (m + 1)) := by
      refine List.map_congr_left fun i _ => ?_
      show ((((d :: r).getD (i + 1) 0 : Nat)) : Int) * 2 ^ (i + 1 + m) = _
      rw [show i + 1 + m = i + (m + 1) by omega]
      rfl
    rw [e, h]
    show ((d : Nat) : Int) * 2 ^ (0 + m) + (lo r : Int) * 2 ^ (m + 1) = ((d + 2 * lo r : Nat) : Int) * 2 ^ m
    rw [Nat.zero_add, Int.pow_succ, Int.natCast_add, Int.natCast_mul, Int.add_mul]
    have : (lo r : Int) * (2 ^ m * 2) = ((2 : Nat) : Int) * (lo r : Int) * 2 ^ m := by
      rw [Int.mul_comm ((2 : Nat) : Int), Int.mul_assoc, Int.mul_comm (2 ^ m) 2]
      rfl
    rw [this]
/-! words -/
def blen (n : Nat) : Nat := Builtin.Int.intBits (n : Int)
theorem blen_zero : blen 0 = 0 := rfl
theorem blen_pos {n : Nat} (h : n ≠ 0) : blen n = n.log2 + 1 := by
  unfold blen Builtin.Int.intBits
  rw [if_neg (by simpa using h), Int.natAbs_natCast]
theorem lt_blen (n : Nat) : n < 2 ^ blen n := by
  by_cases h : n = 0
  · subst h; decide
  · rw [blen_pos h]; exact Nat.lt_log2_self
theorem blen_le {n k : Nat} (h : n < 2 ^ k) : blen n ≤ k := by
  by_cases h0 : n = 0
  · subst h0; exact Nat.zero_le _
  · rw [blen_pos h0]
    exact Nat.succ_le_of_lt ((Nat.log2_lt h0).mpr h)
theorem blen_top {n : Nat} (h : n ≠ 0) : n / 2 ^ (blen n - 1) % 2 = 1 := by
  rw [blen_pos h, Nat.add_sub_cancel]
  have h1 := Nat.log2_self_le h
  have h2 : n < 2 ^ (n.log2 + 1) := Nat.lt_log2_self
  rw [Nat.pow_succ] at h2
  have hp : 0 < 2 ^ n.log2 := Nat.two_pow_pos _
  have : n / 2 ^ n.log2 = 1 := by
    refine Nat.div_eq_of_lt_le ?_ ?_
    · rw [Nat.one_mul]; exact h1
    · rw [Nat.mul_comm]; omega
  rw [this]
def bls : List Nat → Nat
  | [] => 0
  | n :: r => max (blen n) (bls r)
theorem bls_le {ns : List Nat} {k : Nat} (h : ∀ n ∈ ns, n < 2 ^ k) : bls ns ≤ k := by
  induction ns with
  | nil => exact Nat.zero_le _
  | cons n r ih => exact Nat.max_le.mpr ⟨blen_le (h n List.mem_cons_self), ih fun x hx => h x (List.mem_cons_of_mem _ hx)⟩
theorem le_bls {ns : List Nat} {n : Nat} (h : n ∈ ns) : blen n ≤ bls ns := by
  induction ns with
  | nil => cases h
  | cons m r ih =>
    rcases List.mem_cons.mp h with rfl | h
    · exact Nat.le_max_left _ _
    · exact Nat.le_trans (ih h) (Nat.le_max_right _ _)
theorem bls_mem {ns : List Nat} (h : ns ≠ []) : ∃ n ∈ ns, blen n = bls ns := by
  induction ns with
  | nil => exact absurd rfl h
  | cons m r ih =>
    by_cases hr : r = []
    · subst hr
      exact ⟨m, List.mem_cons_self, by simp [bls]⟩
    · obtain ⟨n, hn, e⟩ := ih hr
      rcases Nat.le_total (blen m) (bls r) with q | q
      · exact ⟨n, List.mem_cons_of_mem _ hn, by rw [e]; exact (Nat.max_eq_right q).symm⟩
      · exact ⟨m, List.mem_cons_self, (Nat.max_eq_left q).symm⟩
theorem bls_max {ns : List Nat} {m : Int} (h : (ns.map (fun n => ((blen n : Nat) : Int)) = [] ∧ m = 0) ∨ m ∈ ns.map fun n => ((blen n : Nat) : Int)) (hm : ∀ y ∈ ns.map (fun n => ((blen n : Nat) : Int)), y ≤ m) : m = (bls ns : Nat) := by
  rcases h with ⟨h, rfl⟩ | h
  · rw [List.map_eq_nil_iff.mp h]; rfl
  · obtain ⟨n, hn, rfl⟩ := List.mem_map.mp h
    obtain ⟨k, hk, e⟩ := bls_mem (ns := ns) (fun z => by rw [z] at hn; cases hn)
    have h1 := hm _ (List.mem_map.mpr ⟨k, hk, rfl⟩)
    have h2 := le_bls hn
    omega
def bitAt (ns : List Nat) (k : Nat) : List Nat := ns.map fun n => n / 2 ^ k % 2
theorem bitAt_bits (ns : List Nat) (k : Nat) : Bits (bitAt ns k) := fun d h => by
  obtain ⟨n, _, rfl⟩ := List.mem_map.mp h
  exact Nat.mod_lt _ (by decide)
theorem bitAt_len (ns : List Nat) (k : Nat) : (bitAt ns k).length = ns.length := by simp [bitAt]
def wd (ns : List Nat) : List Nat := (List.range (bls ns)).map fun k => lo (bitAt ns k)
theorem wd_len (ns : List Nat) : (wd ns).length = bls ns := by simp [wd]
theorem wd_get {ns : List Nat} {k : Nat} (h : k < bls ns) : (wd ns)[k]? = some (lo (bitAt ns k)) := by simp [wd, h]
theorem wd_lt {ns : List Nat} {l : Nat} (h : l ∈ wd ns) : l < 2 ^ ns.length := by
  obtain ⟨k, _, rfl⟩ := List.mem_map.mp h
  have := lo_lt (bitAt_bits ns k)
  rwa [bitAt_len] at this
theorem bitAt_ge {ns : List Nat} {k : Nat} (h : bls ns ≤ k) : bitAt ns k = List.replicate ns.length 0 := by
  refine List.ext_getElem (by simp [bitAt]) fun i h1 h2 => ?_
  simp only [bitAt, List.getElem_map, List.getElem_replicate]
  have h3 : i < ns.length := by simpa [bitAt] using h1
  have h4 : ns[i] < 2 ^ k := Nat.lt_of_lt_of_le (lt_blen _) (Nat.pow_le_pow_right (by decide) (Nat.le_trans (le_bls (List.getElem_mem h3)) h))
  rw [Nat.div_eq_of_lt h4]
theorem lo_zeros : ∀ w : Nat, lo (List.replicate w 0) = 0
  | 0 => rfl
  | w + 1 => by
    show 0 + 2 * lo (List.replicate w 0) = 0
    rw [lo_zeros w]
theorem lo_bitAt_ge {ns : List Nat} {k : Nat} (h : bls ns ≤ k) : lo (bitAt ns k) = 0 := by rw [bitAt_ge h, lo_zeros]
theorem lo_ne : ∀ {ds : List Nat}, (∃ d ∈ ds, d ≠ 0) → lo ds ≠ 0
  | [], ⟨_, h, _⟩ => nomatch h
  | x :: r, ⟨d, h, hd⟩ => by
    show x + 2 * lo r ≠ 0
    rcases List.mem_cons.mp h with rfl | h
    · omega
    · have := lo_ne ⟨d, h, hd⟩
      omega
theorem wd_snoc {ns : List Nat} (h : 0 < bls ns) : ∃ r, wd ns = r ++ [lo (bitAt ns (bls ns - 1))] := by
  obtain ⟨n, e⟩ : ∃ n, bls ns = n + 1 := ⟨bls ns - 1, by omega⟩
  refine ⟨(List.range n).map fun k => lo (bitAt ns k), ?_⟩
  unfold wd
  rw [e, List.range_succ, List.map_append]
  rfl
theorem wd_last {ns : List Nat} (h : 0 < bls ns) : lo (bitAt ns (bls ns - 1)) ≠ 0 := by
  obtain ⟨n, hn, e⟩ := bls_mem (ns := ns) (fun z => by rw [z] at h; exact absurd h (by decide))
  have n0 : n ≠ 0 := fun z => by
    rw [z, blen_zero] at e
    omega
  refine lo_ne ⟨n / 2 ^ (bls ns - 1) % 2, List.mem_map.mpr ⟨n, hn, rfl⟩, ?_⟩
  rw [← e, blen_top n0]
  decide
def un (word : List Nat) (w : Nat) : List Nat := (List.range w).map fun t => lo (bitAt word t)
theorem bitAt_wd (ns : List Nat) (z t : Nat) (ht : t < ns.length) : lo (bitAt (wd ns ++ List.replicate z 0) t) = ns[t] := by
  have e : bitAt (wd ns ++ List.replicate z 0) t = bitsL ns[t] (bls ns) ++ List.replicate z 0 := by
    unfold bitAt
    rw [List.map_append, List.map_replicate, Nat.zero_div]
    congr 1
    unfold wd bitsL
    rw [List.map_map]
    refine List.map_congr_left fun k _ => ?_
    show lo (bitAt ns k) / 2 ^ t % 2 = _
    rw [lo_bit t (bitAt_bits ns k), List.getD_eq_getElem?_getD, bitAt, List.getElem?_map, List.getElem?_eq_getElem ht]
    rfl
  rw [e, lo_app, lo_zeros, Nat.mul_zero, Nat.add_zero]
  exact lo_bitsL_of (Nat.lt_of_lt_of_le (lt_blen _) (Nat.pow_le_pow_right (by decide) (le_bls (List.getElem_mem ht))))
theorem un_wd (ns : List Nat) (z : Nat) : un (wd ns ++ List.replicate z 0) ns.length = ns := by
  refine List.ext_getElem (by simp [un]) fun i h1 h2 => ?_
  simp only [un, List.getElem_map, List.getElem_range]
  exact bitAt_wd ns z i h2
/-! letters with a track more -/
def wt (l t v : Nat) : Nat := l % 2 ^ t + 2 ^ t * (v + 2 * (l / 2 ^ t))
theorem wt_mod {l t v : Nat} : wt l t v % 2 ^ t = l % 2 ^ t := by
  unfold wt
  rw [Nat.add_mul_mod_self_left, Nat.mod_mod]
theorem wt_div {l t v : Nat} : wt l t v / 2 ^ t = v + 2 * (l / 2 ^ t) := by
  unfold wt
  have hp : 0 < 2 ^ t := Nat.two_pow_pos _
  rw [Nat.add_mul_div_left _ _ hp, Nat.div_eq_of_lt (Nat.mod_lt _ hp), Nat.zero_add]
theorem wt_or {l t v : Nat} (hv : v < 2) : (l % 2 ^ t ||| v * 2 ^ t) ||| l / 2 ^ t * 2 ^ (t + 1) = wt l t v := by
  have hp : 0 < 2 ^ t := Nat.two_pow_pos _
  have h1 : l % 2 ^ t < 2 ^ t := Nat.mod_lt _ hp
  have e1 : l % 2 ^ t ||| v * 2 ^ t = 2 ^ t * v + l % 2 ^ t := by
    rw [Nat.or_comm, Nat.mul_comm, Nat.two_pow_add_eq_or_of_lt h1]
  have h2 : 2 ^ t * v + l % 2 ^ t < 2 ^ (t + 1) := by
    rw [Nat.pow_succ]
    have : 2 ^ t * v ≤ 2 ^ t * 1 := Nat.mul_le_mul_left _ (by omega)
    omega
  rw [e1, Nat.or_comm, Nat.mul_comm (l / 2 ^ t), ← Nat.two_pow_add_eq_or_of_lt h2, Nat.pow_succ]
  unfold wt
  rw [Nat.mul_add, Nat.mul_assoc]
  omega
def wo (l t : Nat) : Nat := l % 2 ^ t + 2 ^ t * (l / 2 ^ (t + 1))
theorem wo_or {l t : Nat} : (l % 2 ^ t ||| l / 2 ^ (t + 1) * 2 ^ t) = wo l t := by
  have hp : 0 < 2 ^ t := Nat.two_pow_pos _
  have h1 : l % 2 ^ t < 2 ^ t := Nat.mod_lt _ hp
  unfold wo
  rw [Nat.or_comm, Nat.mul_comm, ← Nat.two_pow_add_eq_or_of_lt h1]
  omega
theorem wo_wt {l t v : Nat} (hv : v < 2) : wo (wt l t v) t = l := by
  unfold wo
  rw [wt_mod, Nat.pow_succ, ← Nat.div_div_eq_div_mul, wt_div]
  have : (v + 2 * (l / 2 ^ t)) / 2 = l / 2 ^ t := by omega
  rw [this, Nat.mod_add_div]
theorem wt_lo {l w t v : Nat} (hl : l < 2 ^ w) (ht : t ≤ w) : lo ((bitsL l w).take t ++ [v] ++ (bitsL l w).drop t) = wt l t v := by
  have e1 : (bitsL l w).take t = bitsL l t := by
    unfold bitsL
    rw [← List.map_take, List.take_range, Nat.min_eq_left ht]
  have e2 : lo ((bitsL l w).drop t) = l / 2 ^ t := by
    have h := lo_app ((bitsL l w).take t) ((bitsL l w).drop t)
    rw [List.take_append_drop, lo_bitsL_of hl, e1, lo_bitsL, bitsL_len] at h
    have h2 := Nat.mod_add_div l (2 ^ t)
    have hp : 0 < 2 ^ t := Nat.two_pow_pos _
    have h3 : 2 ^ t * lo ((bitsL l w).drop t) = 2 ^ t * (l / 2 ^ t) := by omega
    exact Nat.eq_of_mul_eq_mul_left hp h3
  rw [lo_app, lo_app, e2, e1, lo_bitsL, List.length_append, bitsL_len]
  show l % 2 ^ t + 2 ^ t * (v + 2 * 0) + 2 ^ (t + 1) * (l / 2 ^ t) = wt l t v
  unfold wt
  rw [Nat.pow_succ, Nat.mul_add, Nat.mul_add, Nat.mul_assoc]
  omega
/-! the same of Python's ints -/
theorem i_dig (n k : Nat) : Builtin.bitAnd ((n : Int) / 2 ^ k) 1 = ((n / 2 ^ k % 2 : Nat) : Int) := by
  have e : (n : Int) / 2 ^ k = ((n / 2 ^ k : Nat) : Int) := by rw [Int.natCast_ediv, PySem.W.kbt_cast]
  have h := PySem.W.kbt_mask ((n : Int) / 2 ^ k) 1
  rw [show ((2 : Int) ^ 1 - 1) = 1 by decide, show ((2 : Int) ^ 1) = 2 by decide] at h
  rw [h, e, Int.natCast_emod]
  rfl
theorem i_low (n k : Nat) : Builtin.bitAnd (n : Int) (2 ^ k - 1) = ((n % 2 ^ k : Nat) : Int) := by
  rw [PySem.W.kbt_mask, Int.natCast_emod, PySem.W.kbt_cast]
theorem i_or (a b : Nat) : Builtin.bitOr (a : Int) (b : Int) = ((a ||| b : Nat) : Int) := by
  rw [bitOr_nn (Int.natCast_nonneg _) (Int.natCast_nonneg _), Int.toNat_natCast, Int.toNat_natCast]
theorem i_shl (a k : Nat) : (a : Int) * 2 ^ k = ((a * 2 ^ k : Nat) : Int) := by rw [Int.natCast_mul, PySem.W.kbt_cast]
theorem i_shr (a k : Nat) : (a : Int) / 2 ^ k = ((a / 2 ^ k : Nat) : Int) := by rw [Int.natCast_ediv, PySem.W.kbt_cast]
theorem i_one (k : Nat) : (1 : Int) * 2 ^ k = ((2 ^ k : Nat) : Int) := by rw [Int.one_mul, PySem.W.kbt_cast]
theorem shlN {n k b : Nat} (h : n < 2 ^ b) (hb : b + k ≤ 134217728) : CShl (n : Int) (k : Int) := shl_ok (by rw [Int.natAbs_natCast]; exact h) hb
/-! a comprehension without a test: a new list of what each turn gives -/
theorem lc_map {J : It} {n : Nat} {G : Hp → Prop} {Y : Nat → Hp → V → Hp → Prop} (w : Walk J n G Y) {g : TG} {te : TE} {vs : List Nat} {σ : L2.St} {H1 : Hp} {D : Addr} {Qd : Hp → Prop} (out : Nat → V) (hn : n ≤ 10000) (hD : H1 D = none)
    (hG : ∀ H, Same H1 H → G H)
    (hs : ∀ i x H H' (N : VK), i < n → Same H1 H → Y i H x H' → (∀ H2, Same H H2 → N (out i) H2) → g x (wipe σ vs) H' fun σ2 H2 => wipe σ2 vs = wipe σ vs ∧ te σ2 H2 N)
    (hd : ∀ H, Same H1 H → H D = some (.lst ((List.range n).map out)) → Qd H) : LcJ J g tYes te vs D σ H1 Qd := by
  refine lc_it w (fun i H => Same H1 H ∧ H D = some (.lst ((List.range i).map out))) ⟨same_upd hD, upd_same⟩ (fun i H _ p => hG H p.1) (fun i x H H' hi p y => ?_) fun H p => hd H p.1 p.2
  obtain ⟨s1, hDl⟩ := p
  refine hs i x H H' (fun y H4 => ∃ acc, H4 D = some (.lst acc) ∧ acc.length < sizeLine ∧ (Same H1 (upd H4 D (.lst (acc ++ [y]))) ∧ (upd H4 D (.lst (acc ++ [y]))) D = some (.lst ((List.range (i + 1)).map out)))) hi s1 y fun H2 s2 => ⟨_, s2 _ _ hDl, by rw [List.length_map, List.length_range]; exact smallt (by omega), Dw.Same.new (s1.trans s2) hD, ?_⟩
  rw [upd_same, List.range_succ, List.map_append]
  rfl
theorem blkOk_nm {N : List Str} {sc scope : Scope} {own : List (Str × Nat)} (nm : List (Str × NameKind)) (e : sc.names = nm) (h : blkC N ⟨.function, nm, false, false, []⟩ scope own = true) : BlkOk N sc scope own := by
  refine blkOk_by ?_
  unfold blkC at h ⊢
  rw [e]
  exact h
theorem sameT {K : PySem.W.Frag} {H H' : Hp} {a : Addr} {xs : List V} (s : Same H H') (h : SqT K H a xs) : SqT K H' a xs := by
  rcases h with (h | ⟨o, h⟩) | h
  · exact .inl (.inl (s _ _ h))
  · exact .inl (.inr ⟨o, s _ _ h⟩)
  · exact .inr h
theorem yat_i {xs : List V} {i : Nat} {H H' : Hp} {x : V} (h : YAt xs i H x H') : H' = H ∧ xs[i]? = some x := h
section
variable {X : Cx} (K : PySem.W.Frag)
theorem piL {tg l : Expr} {tl : TE} (hl : PE X l tl) (h : X.K = K := by rfl) : PI X tg l (iList K tl) := h ▸ pi_list hl
theorem piT {tg l : Expr} {tl : TE} (hl : PE X l tl) (h : X.K = K := by rfl) : PI X tg l (iTup K tl) := h ▸ pi_tup hl
theorem piE {e : Expr} {ta : TA} {p pos tpos : Pos} {elts : List Expr} {kk : Nat} (hg : Gl X "enumerate") (hm : X.mg "enumerate" = none) (ha : PA X [e] ta) (hs : starEach [e] X.env = [(false, eval e X.env)] := by rfl) (h : X.K = K := by rfl) :
    PI X (.Tuple elts kk tpos) (.Call (.Name "enumerate" p) [e] [] pos) (iEnum K ta) := h ▸ pi_enum hg hm ha hs
theorem sumK (hc : X.calm = true := by rfl) (h : X.K = K := by rfl) : CallR X (.builtin "sum") (rSum K) := h ▸ cr_sum hc
end
end Dw
namespace Dw
open PySem PySem.Spec PyProof.Rows L2 SX
/-- the drawing's own list at p, over the script at q -/
def Draw (K : PySem.W.Frag) (H : Hp) (p q : Addr) (ns : List Int) : Prop := (∀ H', But p H H' → SqL K H' q (ns.map V.int)) ∧ ∃ a v x : Int, H p = some (.lst [.ref q, .int a, .int v, .int x]) ∧ 0 ≤ a ∧ 0 ≤ v
theorem Draw.same {K : PySem.W.Frag} {H H' : Hp} {p q : Addr} {ns : List Int} (h : Draw K H p q ns) (e : Same H H') : Draw K H' p q ns := by
  obtain ⟨hq, a, v, x, hp, h0, h1⟩ := h
  exact ⟨fun H2 b => hq H2 ((But.of e).trans b), a, v, x, e _ _ hp, h0, h1⟩
theorem Draw.ne {K : PySem.W.Frag} {H : Hp} {p q t : Addr} {ns : List Int} (h : Draw K H p q ns) (ht : H t = none) : t ≠ p := by
  obtain ⟨_, _, _, _, hp, _⟩ := h
  exact (ne_of_none hp ht).symm
/-- a store at an address that was free before -/
theorem Draw.put {K : PySem.W.Frag} {H0 H : Hp} {p q t : Addr} {ns : List Int} {o : HO} (d : Draw K H0 p q ns) (b : But p H0 H) (h : Draw K H p q ns) (ht : H0 t = none) : Draw K (upd H t o) p q ns := by
  have n := d.ne ht
  obtain ⟨hq, _⟩ := d
  obtain ⟨_, a, v, x, hp, h0, h1⟩ := h
  exact ⟨fun H2 b2 => hq H2 ((b.new ht).trans b2), a, v, x, by rw [upd_ne n.symm]; exact hp, h0, h1⟩
theorem Draw.start {K : PySem.W.Frag} {H : Hp} {p q : Addr} {ns : List Int} (hS : SqL K H q (ns.map V.int)) (hp : H p = none) : Draw K (upd H p (.lst [.ref q, .int 0, .int 0, .int 1])) p q ns := by
  refine ⟨fun H' b => ?_, 0, 0, 1, upd_same, by decide, by decide⟩
  have s : ∀ o, H q = some o → H' q = some o := fun o e => by
    have n : q ≠ p := fun z => by rw [z, hp] at e; cases e
    exact b _ _ n (by rw [upd_ne n]; exact e)
  rcases hS with (h | ⟨o, h⟩) | h
  · exact .inl (.inl (s _ h))
  · exact .inl (.inr ⟨o, s _ h⟩)
  · exact .inr h
end Dw
namespace Dw
open PySem PySem.Spec PyProof.Rows L2 SX
/-! deep equality of data -/
theorem eqD_of {K : PySem.W.Frag} {H : Hp} {x y : V} {d : PyData} {Q : VK} (h1 : Dp K H x d) (h2 : Dp K H y d) (s : SeqAt.shaped d = true) (q : Q (.bl true) H) : rEqD K x y H Q := ⟨d, d, h1, h2, s, s, by rw [shaped_refl s]; exact q⟩
theorem neD_of {K : PySem.W.Frag} {H : Hp} {x y : V} {d : PyData} {Q : VK} (h1 : Dp K H x d) (h2 : Dp K H y d) (s : SeqAt.shaped d = true) (q : Q (.bl false) H) : rNeD K x y H Q := ⟨d, d, h1, h2, s, s, by rw [shaped_refl s]; exact q⟩
def natD (n : Nat) : PyData := .int (n : Int)
theorem nats_lay : ∀ ns : List Nat, PyData.canLayAll0 (ns.map natD) = true
  | [] => by simp [PyData.canLayAll0]
  | n :: r => by simp [PyData.canLayAll0, natD, PyData.canLay0, nats_lay r]
theorem nats_depth : ∀ ns : List Nat, PyData.depthAll (ns.map natD) = 0
  | [] => by simp [PyData.depthAll]
  | n :: r => by simp [PyData.depthAll, natD, PyData.depth, nats_depth r]
theorem nats_dp {K : PySem.W.Frag} {H : Hp} : ∀ ns : List Nat, DpAll K H (ns.map nv) (ns.map natD)
  | [] => .nil
  | _ :: r => .cons (.int _) (nats_dp r)
theorem nats_shaped (ns : List Nat) : SeqAt.shaped (.list (ns.map natD)) = true := by
  simp [SeqAt.shaped, PyData.canLay0, PyData.depth, nats_lay ns, nats_depth]
theorem nats_shapedT (ns : List Nat) : SeqAt.shaped (.tuple (ns.map natD)) = true := by
  simp [SeqAt.shaped, PyData.canLay0, PyData.depth, nats_lay ns, nats_depth]
theorem cutV_to {xs : List V} {t : Nat} (h : t ≤ xs.length) : cutV xs none (some (t : Int)) = xs.take t := by
  unfold cutV
  rw [HT.sIx_nat]
  show (xs.drop 0).take (min t xs.length - 0) = _
  rw [List.drop_zero, Nat.sub_zero, Nat.min_eq_left h]
theorem cutV_from {xs : List V} {t : Nat} (h : t ≤ xs.length) : cutV xs (some (t : Int)) none = xs.drop t := by
  unfold cutV
  rw [HT.sIx_nat]
  show (xs.drop (min t xs.length)).take (xs.length - min t xs.length) = _
  rw [Nat.min_eq_left h, List.take_of_length_le (by rw [List.length_drop]; omega)]
end Dw
namespace Dw
open PySem PySem.Spec PyProof.Rows L2 SX
theorem hu1' {A : Around} {k : Nat} (hr : Room k A) : A.units + 1 < cLine := by
  have := hr.units
  omega
/-! fields, read and stored -/
def FldR (K : PySem.W.Frag) (f : Str) : V → Hp → VK → Prop := fun x H Q => ∃ a C dx fs v, x = .ref a ∧ H a = some (.ins C dx fs) ∧ Cls K C ∧ NoAttr K C f ∧ fs.lookup f = some v ∧ Q v H
def tFd (K : PySem.W.Frag) (ta : TE) (f : Str) : TE := fun σ H Q => ta σ H fun x H1 => FldR K f x H1 Q
theorem fld_of {K : PySem.W.Frag} {f : Str} {a C dx : Addr} {fs : List (Str × V)} {v : V} {H : Hp} {Q : VK} (c : Cls K C) (n : NoAttr K C f) (h : H a = some (.ins C dx fs)) (l : fs.lookup f = some v) (q : Q v H) : FldR K f (.ref a) H Q := ⟨a, C, dx, fs, v, rfl, h, c, n, l, q⟩
def FldS (K : PySem.W.Frag) (f : Str) (x y : V) (H : Hp) (R : Hp → Prop) : Prop := ∃ a C dx fs, x = .ref a ∧ H a = some (.ins C dx fs) ∧ Cls K C ∧ NoAttr K C f ∧ fs.length < 1000 ∧ R (upd H a (.ins C dx (putF f y fs)))
def tFs (K : PySem.W.Frag) (ta tv : TE) (f : Str) : TS := fun D σ H => tv σ H fun y H1 => ta σ H1 fun x H2 => FldS K f x y H2 (D.nx σ)
theorem flds_of {K : PySem.W.Frag} {f : Str} {a C dx : Addr} {fs : List (Str × V)} {y : V} {H : Hp} {R : Hp → Prop} (c : Cls K C) (n : NoAttr K C f) (h : H a = some (.ins C dx fs)) (l : fs.length < 1000) (q : R (upd H a (.ins C dx (putF f y fs)))) : FldS K f (.ref a) y H R := ⟨a, C, dx, fs, rfl, h, c, n, l, q⟩
section
variable {X : Cx} (K : PySem.W.Frag)
theorem pe_fd {e : Expr} {ta : TE} {f : Str} {pos : Pos} (he : PE X e ta) (hb : attributeBase e f X.env (eval e X.env) = eval e X.env) (h : X.K = K := by rfl) : PE X (.Attribute e f pos) (tFd K ta f) := h ▸ pe_fld he hb
theorem ps_fldK {o value : Expr} {ta tv : TE} {f : Str} {pos pos' : Pos} (ha : PE X o ta) (hv : PE X value tv) (hs : swapsWith value (some (.Attribute o f pos')) pos.line X.env = pure false) (h : X.K = K := by rfl) : PS X (.Assign [.Attribute o f pos'] value pos) (tFs K ta tv f) := h ▸ ps_fld ha hv hs
theorem allQ (hc : X.calm = true := by rfl) (h : X.K = K := by rfl) : CallR X (.builtin "all") (rAll K) := h ▸ cr_all hc
end
/-! tables -/
structure RowsAt (H : Hp) (rs : List Addr) (T : List (List Int)) : Prop where
  len : rs.length = T.length
  at_ : ∀ (i : Nat) (a : Addr) (r : List Int), rs[i]? = some a → T[i]? = some r → H a = some (.lst (r.map V.int))
theorem RowsAt.same {H H' : Hp} {rs : List Addr} {T : List (List Int)} (h : RowsAt H rs T) (s : Same H H') : RowsAt H' rs T := ⟨h.len, fun i a r h1 h2 => s _ _ (h.at_ i a r h1 h2)⟩
theorem RowsAt.get {H : Hp} {rs : List Addr} {T : List (List Int)} {i : Nat} {r : List Int} (h : RowsAt H rs T) (e : T[i]? = some r) : ∃ a, rs[i]? = some a ∧ H a = some (.lst (r.map V.int)) := by
  have hi : i < rs.length := by
    rw [h.len]
    exact (List.getElem?_eq_some_iff.mp e).1
  exact ⟨rs[i], List.getElem?_eq_getElem hi, h.at_ i _ r (List.getElem?_eq_getElem hi) e⟩
def goodRow (n l : Nat) (r : List Int) : Bool := decide (r.length = l) && r.all fun x => decide (0 ≤ x) && decide (x < (n : Int))
def goodT (T : List (List Int)) (l : Nat) : Bool := T.all (goodRow T.length l)
/-- where state s is led to by a letter -/
def nxt (T : List (List Int)) (s l : Nat) : Nat := ((T.getD s []).getD l 0).toNat
def runT (T : List (List Int)) (s : Nat) (ls : List Nat) : Nat := ls.foldl (nxt T) s
theorem goodT_row {T : List (List Int)} {l s : Nat} (g : goodT T l = true) (h : s < T.length) : ∃ r, T[s]? = some r ∧ r.length = l ∧ ∀ x ∈ r, 0 ≤ x ∧ x < (T.length : Int) := by
  have h1 := List.all_eq_true.mp g T[s] (List.getElem_mem h)
  unfold goodRow at h1
  rw [Bool.and_eq_true, decide_eq_true_eq, List.all_eq_true] at h1
  refine ⟨T[s], List.getElem?_eq_getElem h, h1.1, fun x hx => ?_⟩
  have h2 := h1.2 x hx
  rw [Bool.and_eq_true, decide_eq_true_eq, decide_eq_true_eq] at h2
  exact h2
theorem goodT_at {T : List (List Int)} {l s a : Nat} (g : goodT T l = true) (h : s < T.length) (ha : a < l) : ∃ r, T[s]? = some r ∧ r[a]? = some ((nxt T s a : Nat) : Int) ∧ nxt T s a < T.length := by
  obtain ⟨r, e, hl, hx⟩ := goodT_row g h
  have ha' : a < r.length := by omega
  have e2 : r[a]? = some r[a] := List.getElem?_eq_getElem ha'
  have h3 := hx r[a] (List.getElem_mem ha')
  have e3 : nxt T s a = r[a].toNat := by
    unfold nxt
    have e4 : T.getD s [] = r := by rw [List.getD_eq_getElem?_getD, e, Option.getD_some]
    rw [e4, List.getD_eq_getElem?_getD, e2, Option.getD_some]
  refine ⟨r, e, ?_, by omega⟩
  rw [e2, e3, Int.toNat_of_nonneg h3.1]
theorem runT_lt {T : List (List Int)} {l : Nat} (g : goodT T l = true) : ∀ (ls : List Nat) (s : Nat), (∀ x ∈ ls, x < l) → s < T.length → runT T s ls < T.length
  | [], _, _, h => h
  | x :: r, s, hl, h => by
    obtain ⟨_, _, _, h2⟩ := goodT_at g h (hl x List.mem_cons_self)
    exact runT_lt g r _ (fun y hy => hl y (List.mem_cons_of_mem _ hy)) h2
theorem runT_snoc (T : List (List Int)) (s : Nat) (ls : List Nat) (x : Nat) : runT T s (ls ++ [x]) = nxt T (runT T s ls) x := by
  unfold runT
  rw [List.foldl_append]
  rfl
/-! machines -/
def mflds (w : Nat) (t b : Addr) : List (Str × V) := putF "accepting" (.ref b) (putF "table" (.ref t) (putF "width" (nv w) []))
theorem kwt : ¬ (("width" : Str) = "table") := by decide +kernel
theorem kwa : ¬ (("width" : Str) = "accepting") := by decide +kernel
theorem kta : ¬ (("table" : Str) = "accepting") := by decide +kernel
theorem mf_w (w : Nat) (t b : Addr) : (mflds w t b).lookup ("width" : Str) = some (nv w) := by
  unfold mflds
  rw [lookup_putF, if_neg kwa, lookup_putF, if_neg kwt, lookup_putF, if_pos rfl]
theorem mf_t (w : Nat) (t b : Addr) : (mflds w t b).lookup ("table" : Str) = some (.ref t) := by
  unfold mflds
  rw [lookup_putF, if_neg kta, lookup_putF, if_pos rfl]
theorem mf_a (w : Nat) (t b : Addr) : (mflds w t b).lookup ("accepting" : Str) = some (.ref b) := by
  unfold mflds
  rw [lookup_putF, if_pos rfl]
theorem mf_no (w : Nat) (t b : Addr) {m : Str} (h1 : ¬ m = "width") (h2 : ¬ m = "table") (h3 : ¬ m = "accepting") : (mflds w t b).lookup m = none := by
  unfold mflds
  rw [lookup_putF, if_neg h3, lookup_putF, if_neg h2, lookup_putF, if_neg h1]
  rfl
structure MachAt (C : Addr) (H : Hp) (m : Addr) (w : Nat) (T : List (List Int)) (acc : List Bool) : Prop where
  ex : ∃ dx t b rs, H m = some (.ins C dx (mflds w t b)) ∧ H t = some (.lst (rs.map V.ref)) ∧ RowsAt H rs T ∧ H b = some (.lst (acc.map V.bl))
theorem MachAt.same {C : Addr} {H H' : Hp} {m : Addr} {w : Nat} {T : List (List Int)} {acc : List Bool} (h : MachAt C H m w T acc) (s : Same H H') : MachAt C H' m w T acc := by
  obtain ⟨dx, t, b, rs, h1, h2, h3, h4⟩ := h.ex
  exact ⟨dx, t, b, rs, s _ _ h1, s _ _ h2, h3.same s, s _ _ h4⟩
/-- what a machine must be -/
structure MOk (w : Nat) (T : List (List Int)) (acc : List Bool) : Prop where
  w6 : w ≤ 6
  pos : 0 < T.length
  le : T.length ≤ 400
  good : goodT T (2 ^ w) = true
  al : acc.length = T.length
  set : ∀ i, i < T.length → acc[i]? = acc[nxt T i 0]?
theorem Same.but {H H' : Hp} {p : Addr} {o : HO} (h : H p = none) (s : Same H H') : But p H (upd H' p o) := (But.of s).trans But.upd
/-- all but what is new -/
theorem same_of_but {H H' : Hp} {p : Addr} (h : H p = none) (b : But p H H') : Same H H' := fun a o e => b a o (ne_of_none e h) e
def boolD (b : Bool) : PyData := .bool b
theorem bools_lay : ∀ ns : List Bool, PyData.canLayAll0 (ns.map boolD) = true
  | [] => by simp [PyData.canLayAll0]
  | n :: r => by simp [PyData.canLayAll0, boolD, PyData.canLay0, bools_lay r]
theorem bools_depth : ∀ ns : List Bool, PyData.depthAll (ns.map boolD) = 0
  | [] => by simp [PyData.depthAll]
  | n :: r => by simp [PyData.depthAll, boolD, PyData.depth, bools_depth r]
theorem bools_dp {K : PySem.W.Frag} {H : Hp} : ∀ ns : List Bool, DpAll K H (ns.map V.bl) (ns.map boolD)
  | [] => .nil
  | _ :: r => .cons (.bl _) (bools_dp r)
theorem bools_shaped (ns : List Bool) : SeqAt.shaped (.list (ns.map boolD)) = true := by
  simp [SeqAt.shaped, PyData.canLay0, PyData.depth, bools_lay ns, bools_depth]
def intD (n : Int) : PyData := .int n
theorem ints_lay : ∀ ns : List Int, PyData.canLayAll0 (ns.map intD) = true
  | [] => by simp [PyData.canLayAll0]
  | n :: r => by simp [PyData.canLayAll0, intD, PyData.canLay0, ints_lay r]
theorem ints_depth : ∀ ns : List Int, PyData.depthAll (ns.map intD) = 0
  | [] => by simp [PyData.depthAll]
  | n :: r => by simp [PyData.depthAll, intD, PyData.depth, ints_depth r]
theorem ints_dp {K : PySem.W.Frag} {H : Hp} : ∀ ns : List Int, DpAll K H (ns.map V.int) (ns.map intD)
  | [] => .nil
  | _ :: r => .cons (.int _) (ints_dp r)
theorem ints_shaped (ns : List Int) : SeqAt.shaped (.list (ns.map intD)) = true := by
  simp [SeqAt.shaped, PyData.canLay0, PyData.depth, ints_lay ns, ints_depth]
def rowD (r : List Int) : PyData := .list (r.map intD)
theorem rows_lay : ∀ T : List (List Int), PyData.canLayAll0 (T.map rowD) = true
  | [] => by simp [PyData.canLayAll0]
  | n :: r => by simp [PyData.canLayAll0, rowD, PyData.canLay0, ints_lay n, rows_lay r]
theorem rows_depth : ∀ T : List (List Int), PyData.depthAll (T.map rowD) ≤ 1
  | [] => by simp [PyData.depthAll]
  | n :: r => by
    have := rows_depth r
    simp [PyData.depthAll, rowD, PyData.depth, ints_depth n]
    omega
theorem rows_shaped (T : List (List Int)) : SeqAt.shaped (.list (T.map rowD)) = true := by
  have := rows_depth T
  simp [SeqAt.shaped, PyData.canLay0, PyData.depth, rows_lay T]
  omega
theorem rows_dp {K : PySem.W.Frag} {H : Hp} : ∀ {rs : List Addr} {T : List (List Int)}, RowsAt H rs T → DpAll K H (rs.map V.ref) (T.map rowD)
  | [], [], _ => .nil
  | a :: rs, r :: T, h => .cons (.lst (SqL.of (h.at_ 0 a r rfl rfl)) (ints_dp r)) (rows_dp (rs := rs) (T := T) ⟨Nat.succ.inj h.len, fun i a' r' h1 h2 => h.at_ (i + 1) a' r' h1 h2⟩)
  | [], _ :: _, h => nomatch h.len
  | _ :: _, [], h => nomatch h.len
end Dw
namespace Dw
open PySem PySem.Spec PyProof.Rows L2 SX
/-- a machine at m whose parts are new -/
structure MachNew (C : Addr) (H H' : Hp) (m : Addr) (w : Nat) (T : List (List Int)) (acc : List Bool) : Prop where
  ex : ∃ dx t b rs, H' m = some (.ins C dx (mflds w t b)) ∧ H' t = some (.lst (rs.map V.ref)) ∧ RowsAt H' rs T ∧ H' b = some (.lst (acc.map V.bl)) ∧ H t = none ∧ H b = none ∧ ∀ r ∈ rs, H r = none
theorem MachNew.at_ {C : Addr} {H H' : Hp} {m : Addr} {w : Nat} {T : List (List Int)} {acc : List Bool} (h : MachNew C H H' m w T acc) : MachAt C H' m w T acc := by
  obtain ⟨dx, t, b, rs, h1, h2, h3, h4, _⟩ := h.ex
  exact ⟨dx, t, b, rs, h1, h2, h3, h4⟩
end Dw
namespace Dw
open PySem PySem.Spec PyProof.Rows L2 SX
theorem for_enumN {K : PySem.W.Frag} {a : Addr} {xs : List V} {g : TG} {tb : TS} {D : Ends} {σ : L2.St} {H : Hp} (Pv : Nat → L2.St → Hp → Prop) (h0 : Pv 0 σ H) (hl : ∀ i σ H, i ≤ xs.length → Pv i σ H → SqL K H a xs)
    (hs : ∀ i x T σ H (N : L2.St → Hp → Prop), xs[i]? = some x → Pv i σ H → H T = none → (∀ σ' H', Pv (i + 1) σ' H' → N σ' H') → g (.ref T) σ (upd H T (.tup [.int (i : Nat), x])) fun σ2 H2 => tb { D with nx := N, ct := N, bk := D.nx } σ2 H2) (hd : ∀ σ H, Pv xs.length σ H → D.nx σ H) :
    ForJ (Ite K a) g tb D σ H := for_it (walk_enum (xs := xs)) Pv h0 hl (fun i x σ H H' hi p y => by
      obtain ⟨T, v, z, rfl, hT, rfl, e1, e2⟩ := y
      cases e1
      exact hs i z T σ H (Pv (i + 1)) e2 p hT fun _ _ h => h) hd
theorem RowsAt.snoc {H : Hp} {rs : List Addr} {T : List (List Int)} {a : Addr} {r : List Int} (h : RowsAt H rs T) (e : H a = some (.lst (r.map V.int))) : RowsAt H (rs ++ [a]) (T ++ [r]) := by
  refine ⟨by rw [List.length_append, List.length_append, h.len]; rfl, fun i b q h1 h2 => ?_⟩
  by_cases hi : i < rs.length
  · rw [List.getElem?_append_left hi] at h1
    rw [List.getElem?_append_left (by rw [← h.len]; exact hi)] at h2
    exact h.at_ i b q h1 h2
  · rw [List.getElem?_append_right (by omega)] at h1
    rw [List.getElem?_append_right (by rw [← h.len]; omega), ← h.len] at h2
    cases hk : i - rs.length with
    | zero =>
      rw [hk] at h1 h2
      cases h1
      cases h2
      exact e
    | succ k =>
      rw [hk] at h1
      cases h1
theorem RowsAt.but {H H' : Hp} {rs : List Addr} {T : List (List Int)} {p : Addr} (h : RowsAt H rs T) (b : But p H H') (n : ∀ r ∈ rs, r ≠ p) : RowsAt H' rs T :=
  ⟨h.len, fun i a r h1 h2 => b _ _ (n a (List.mem_of_getElem? h1)) (h.at_ i a r h1 h2)⟩
end Dw
namespace Dw
open PySem PySem.Spec PyProof.Rows L2 SX
/-- a machine at m, its parts at L -/
def MachP (C : Addr) (H : Hp) (L : List Addr) (m : Addr) (w : Nat) (T : List (List Int)) (acc : List Bool) : Prop := ∃ dx t b rs, L = m :: t :: b :: rs ∧ H m = some (.ins C dx (mflds w t b)) ∧ H t = some (.lst (rs.map V.ref)) ∧ RowsAt H rs T ∧ H b = some (.lst (acc.map V.bl))
section
variable {C : Addr} {H H' : Hp} {L : List Addr} {m q : Addr} {w : Nat} {T : List (List Int)} {acc : List Bool}
theorem MachP.at_ (h : MachP C H L m w T acc) : MachAt C H m w T acc := by
  obtain ⟨dx, t, b, rs, _, h1, h2, h3, h4⟩ := h
  exact ⟨dx, t, b, rs, h1, h2, h3, h4⟩
theorem MachP.but (h : MachP C H L m w T acc) (b : But q H H') (n : q ∉ L) : MachP C H' L m w T acc := by
  obtain ⟨dx, t, a, rs, rfl, h1, h2, h3, h4⟩ := h
  simp only [List.mem_cons, not_or] at n
  exact ⟨dx, t, a, rs, rfl, b _ _ (fun e => n.1 e.symm) h1, b _ _ (fun e => n.2.1 e.symm) h2, h3.but b fun r hr e => n.2.2.2 (e ▸ hr), b _ _ (fun e => n.2.2.1 e.symm) h4⟩
theorem MachP.same (h : MachP C H L m w T acc) (s : Same H H') : MachP C H' L m w T acc := by
  obtain ⟨dx, t, a, rs, rfl, h1, h2, h3, h4⟩ := h
  exact ⟨dx, t, a, rs, rfl, s _ _ h1, s _ _ h2, h3.same s, s _ _ h4⟩
theorem RowsAt.some {H : Hp} {rs : List Addr} {T : List (List Int)} {a : Addr} (h : RowsAt H rs T) (ha : a ∈ rs) : ∃ r, r ∈ T ∧ H a = some (.lst (r.map V.int)) := by
  obtain ⟨i, hi, e⟩ := List.mem_iff_getElem.mp ha
  have hi2 : i < T.length := by rw [← h.len]; exact hi
  exact ⟨T[i], List.getElem_mem hi2, h.at_ i a T[i] (by rw [List.getElem?_eq_getElem hi, e]) (List.getElem?_eq_getElem hi2)⟩
theorem MachP.free (h : MachP C H L m w T acc) (hq : H q = none) : q ∉ L := by
  obtain ⟨dx, t, a, rs, rfl, h1, h2, h3, h4⟩ := h
  intro z
  simp only [List.mem_cons] at z
  rcases z with rfl | rfl | rfl | z
  · rw [hq] at h1; cases h1
  · rw [hq] at h2; cases h2
  · rw [hq] at h4; cases h4
  · obtain ⟨r, _, e⟩ := h3.some z
    rw [hq] at e; cases e
theorem MachNew.parts (h : MachNew C H H' m w T acc) : ∃ L, MachP C H' L m w T acc ∧ ∀ a ∈ L, a = m ∨ H a = none := by
  obtain ⟨dx, t, b, rs, h1, h2, h3, h4, n1, n2, n3⟩ := h.ex
  refine ⟨_, ⟨dx, t, b, rs, rfl, h1, h2, h3, h4⟩, fun a ha => ?_⟩
  simp only [List.mem_cons] at ha
  rcases ha with rfl | rfl | rfl | z
  · exact .inl rfl
  · exact .inr n1
  · exact .inr n2
  · exact .inr (n3 a z)
theorem notin_of {o : HO} (h : ∀ a ∈ L, H a = none) (hq : H q = some o) : q ∉ L := fun z => by
  rw [h q z] at hq
  cases hq
end
end Dw
namespace Dw
open PySem PySem.Spec PyProof.Rows L2 SX
/-! a ring that is walked twice -/
def it (f : Nat → Nat) : Nat → Nat → Nat
  | 0, s => s
  | k + 1, s => it f k (f s)
theorem it_add (f : Nat → Nat) : ∀ (a b s : Nat), it f (a + b) s = it f b (it f a s)
  | 0, b, s => by rw [Nat.zero_add]; rfl
  | a + 1, b, s => by
    rw [Nat.add_right_comm]
    exact it_add f a b (f s)
theorem it_succ (f : Nat → Nat) (k s : Nat) : it f (k + 1) s = f (it f k s) := it_add f k 1 s
theorem it_lt {f : Nat → Nat} {n : Nat} (hf : ∀ x, x < n → f x < n) : ∀ (k s : Nat), s < n → it f k s < n
  | 0, _, h => h
  | k + 1, s, h => it_lt hf k (f s) (hf s h)
theorem pigeon : ∀ (n : Nat) (f : Nat → Nat), (∀ i, i ≤ n → f i < n) → ∃ i j, i < j ∧ j ≤ n ∧ f i = f j
  | 0, f, h => absurd (h 0 (Nat.le_refl 0)) (Nat.not_lt_zero _)
  | n + 1, f, h => by
    by_cases hv : ∃ i, i ≤ n ∧ f i = f (n + 1)
    · obtain ⟨i, hi, e⟩ := hv
      exact ⟨i, n + 1, by omega, Nat.le_refl _, e⟩
    · have hne : ∀ i, i ≤ n → f i ≠ f (n + 1) := fun i hi e => hv ⟨i, hi, e⟩
      have hl := h (n + 1) (Nat.le_refl _)
      obtain ⟨i, j, hij, hj, e⟩ := pigeon n (fun i => if f i = n then f (n + 1) else f i) (fun i hi => by
        have h1 := h i (by omega)
        have h2 := hne i hi
        show (if f i = n then f (n + 1) else f i) < n
        split
        · rename_i q
          omega
        · omega)
      refine ⟨i, j, hij, by omega, ?_⟩
      have h1 := hne i (by omega)
      have h2 := hne j hj
      split at e <;> split at e <;> omega
def ringL (f : Nat → Nat) (n s : Nat) : List Nat := (List.range (n + 1)).map fun j => it f (n + j) s
theorem ringL_mem {f : Nat → Nat} {n s x : Nat} : x ∈ ringL f n s ↔ ∃ j, j ≤ n ∧ it f (n + j) s = x := by
  unfold ringL
  rw [List.mem_map]
  constructor
  · rintro ⟨j, hj, e⟩
    exact ⟨j, by have := List.mem_range.mp hj; omega, e⟩
  · rintro ⟨j, hj, e⟩
    exact ⟨j, List.mem_range.mpr (by omega), e⟩
theorem ring_same {f : Nat → Nat} {n s x : Nat} (hf : ∀ x, x < n → f x < n) (hs : s < n) : x ∈ ringL f n s ↔ x ∈ ringL f n (f s) := by
  obtain ⟨a, b, hab, hb, e⟩ := pigeon n (fun i => it f i s) fun i _ => it_lt hf i s hs
  have per : ∀ k, a ≤ k → it f (k + (b - a)) s = it f k s := fun k hk => by
    have e1 : k + (b - a) = b + (k - a) := by omega
    have e2 : k = a + (k - a) := by omega
    rw [e1, it_add, ← (show it f a s = it f b s from e), ← it_add, ← e2]
  have nx : ∀ j, it f (n + j) (f s) = it f (n + 1 + j) s := fun j => by
    have : n + 1 + j = (n + j) + 1 := by omega
    rw [this]
    rfl
  rw [ringL_mem, ringL_mem]
  constructor
  · rintro ⟨j, hj, rfl⟩
    by_cases h0 : j = 0
    · subst h0
      refine ⟨b - a - 1, by omega, ?_⟩
      have e2 : n + 1 + (b - a - 1) = n + (b - a) := by omega
      rw [nx, e2, per n (by omega)]
      rfl
    · refine ⟨j - 1, by omega, ?_⟩
      rw [nx]
      congr 1
      omega
  · rintro ⟨j, hj, rfl⟩
    rw [nx]
    by_cases h0 : j = n
    · subst h0
      refine ⟨j + 1 - (b - a), by omega, ?_⟩
      rw [← per (j + (j + 1 - (b - a))) (by omega)]
      congr 1
      omega
    · exact ⟨j + 1, by omega, by congr 1; omega⟩
def IsMin (m : Nat) (L : List Nat) : Prop := m ∈ L ∧ ∀ y ∈ L, m ≤ y
theorem IsMin.eq {m k : Nat} {L M : List Nat} (h : IsMin m L) (h' : IsMin k M) (e : ∀ x, x ∈ L ↔ x ∈ M) : m = k :=
  Nat.le_antisymm (h.2 _ ((e _).mpr h'.1)) (h'.2 _ ((e _).mp h.1))
/-! told words -/
structure TOk (T : List (List Int)) (outs : List Int) : Prop where
  pos : 0 < T.length
  le : T.length ≤ 40
  al : outs.length = T.length
  rng : ∀ o ∈ outs, 0 ≤ o ∧ o ≤ 9
  good : goodT T 2 = true
  set : ∀ i, i < T.length → outs[i]? = outs[nxt T i 0]?
theorem TOk.nx {T : List (List Int)} {outs : List Int} (h : TOk T outs) {s d : Nat} (hs : s < T.length) (hd : d < 2) : nxt T s d < T.length := by
  obtain ⟨_, _, _, h2⟩ := goodT_at h.good hs hd
  exact h2
theorem TOk.zeros {T : List (List Int)} {outs : List Int} (h : TOk T outs) : ∀ (z s : Nat), s < T.length → outs[runT T s (List.replicate z 0)]? = outs[s]?
  | 0, _, _ => rfl
  | z + 1, s, hs => by
    show outs[runT T (nxt T s 0) (List.replicate z 0)]? = _
    rw [h.zeros z _ (h.nx hs (by decide)), ← h.set s hs]
/-- the digits of a number -/
def dg (n : Nat) : List Nat := bitsL n (blen n)
theorem dg_zero : dg 0 = [] := rfl
theorem blen_half {n : Nat} (h : n ≠ 0) : blen n = blen (n / 2) + 1 := by
  have h1 := lt_blen (n / 2)
  have h2 : n < 2 ^ (blen (n / 2) + 1) := by
    rw [Nat.pow_succ]
    omega
  have h3 := blen_le h2
  obtain ⟨k, e⟩ : ∃ k, blen n = k + 1 := ⟨n.log2, blen_pos h⟩
  have h4 := lt_blen n
  rw [e, Nat.pow_succ] at h4
  have h5 : blen (n / 2) ≤ k := blen_le (by omega)
  omega
theorem dg_pos {n : Nat} (h : n ≠ 0) : dg n = n % 2 :: dg (n / 2) := by
  unfold dg
  rw [blen_half h, bitsL_succ]
theorem dg_bits (n : Nat) : Bits (dg n) := bitsL_bits _ _
theorem bits_pad : ∀ (n k : Nat), bitsL n (blen n + k) = dg n ++ List.replicate k 0 := fun n k => by
  unfold dg
  refine List.ext_getElem (by simp [bitsL_len]) fun i h1 h2 => ?_
  by_cases hi : i < blen n
  · rw [List.getElem_append_left (by rw [bitsL_len]; exact hi)]
    simp only [bitsL, List.getElem_map, List.getElem_range]
  · rw [List.getElem_append_right (by rw [bitsL_len]; omega)]
    simp only [bitsL, List.getElem_map, List.getElem_range, List.getElem_replicate]
    have : n < 2 ^ i := Nat.lt_of_lt_of_le (lt_blen n) (Nat.pow_le_pow_right (by decide) (by omega))
    rw [Nat.div_eq_of_lt this]
theorem runT_app (T : List (List Int)) (s : Nat) (a b : List Nat) : runT T s (a ++ b) = runT T (runT T s a) b := by
  unfold runT
  rw [List.foldl_append]
/-- a copied table -/
theorem lc_copy {K : PySem.W.Frag} {t : Addr} {rs : List Addr} {T : List (List Int)} {g : TG} {te : TE} {vs : List Nat} {σ : L2.St} {H1 : Hp} {D : Addr} {Qd : Hp → Prop} (h1 : H1 t = some (.lst (rs.map V.ref))) (hr : RowsAt H1 rs T) (hn : T.length ≤ 500) (hD : H1 D = none)
    (step : ∀ a (r : List Int) H (N : VK), H a = some (.lst (r.map V.int)) → (∀ L, H L = none → N (.ref L) (upd H L (.lst (r.map V.int)))) → g (.ref a) (wipe σ vs) H fun σ2 H2 => wipe σ2 vs = wipe σ vs ∧ te σ2 H2 N)
    (hd : ∀ H' qs, Same H1 H' → H' D = some (.lst (qs.map V.ref)) → RowsAt H' qs T → (∀ q ∈ qs, H1 q = none ∧ q ≠ D) → Qd H') : LcJ (Itl K t) g tYes te vs D σ H1 Qd := by
  refine lc_listN (xs := rs.map V.ref) (fun i H4 => ∃ qs : List Addr, H4 D = some (.lst (qs.map V.ref)) ∧ RowsAt H4 qs (T.take i) ∧ Same H1 H4 ∧ ∀ q ∈ qs, H1 q = none ∧ q ≠ D) ?_ ?_ ?_ ?_
  · exact ⟨[], upd_same, ⟨rfl, fun i a r h _ => nomatch h⟩, same_upd hD, fun _ h => nomatch h⟩
  · rintro i H4 _ ⟨qs, _, _, s4, _⟩
    exact SqL.of (s4 _ _ h1)
  · rintro i x H4 N2 hx ⟨qs, h4, q4, s4, n4⟩ hN2
    rw [List.getElem?_map] at hx
    obtain ⟨ra, hra, rfl⟩ := Option.map_eq_some_iff.mp hx
    have hi : i < T.length := by rw [← hr.len]; exact (List.getElem?_eq_some_iff.mp hra).1
    have hTi : T[i]? = some T[i] := List.getElem?_eq_getElem hi
    have hrow := s4 _ _ (hr.at_ i ra T[i] hra hTi)
    have hql : qs.length ≤ 500 := by
      have := q4.len
      rw [List.length_take] at this
      omega
    refine step ra T[i] H4 (fun y H5 => ∃ acc, H5 D = some (.lst acc) ∧ acc.length < sizeLine ∧ N2 (upd H5 D (.lst (acc ++ [y])))) hrow fun L hL => ⟨_, (same_upd hL) _ _ h4, smallt (by rw [List.length_map]; omega), hN2 _ ⟨qs ++ [L], ?_, ?_, ?_, ?_⟩⟩
    · rw [upd_same, List.map_append]
      rfl
    · have hLD : L ≠ D := (ne_of_none h4 hL).symm
      rw [List.take_add_one, hTi]
      refine RowsAt.but (RowsAt.snoc (q4.same (same_upd hL)) upd_same) But.upd fun q hq => ?_
      rcases List.mem_append.mp hq with hq | hq
      · exact (n4 q hq).2
      · rw [List.mem_singleton.mp hq]
        exact hLD
    · exact Dw.Same.new (s4.trans (same_upd hL)) hD
    · intro q hq
      rcases List.mem_append.mp hq with hq | hq
      · exact n4 q hq
      · rw [List.mem_singleton.mp hq]
        exact ⟨s4.free hL, (ne_of_none h4 hL).symm⟩
  · rintro H4 ⟨qs, h4, q4, s4, n4⟩
    rw [List.length_map, hr.len, List.take_length] at q4
    exact hd H4 qs s4 h4 q4 n4
section
variable {X : Cx} (K : PySem.W.Frag)
theorem minK (hc : X.calm = true := by rfl) (h : X.K = K := by rfl) : CallR X (.builtin "min") (rMin K) := h ▸ cr_min hc
end
end Dw
namespace Dw
open PySem PySem.Spec PyProof.Rows L2 SX
theorem Same.get {H H' : Hp} {a : Addr} {o : HO} (s : Same H H') (h : H a = some o) : H' a = some o := s _ _ h
theorem But.get {p : Addr} {H H' : Hp} {a : Addr} {o : HO} (b : But p H H') (n : a ≠ p) (h : H a = some o) : H' a = some o := b _ _ n h
theorem Same.none {H H' : Hp} {a : Addr} (s : Same H H') (h : H' a = none) : H a = none := s.free h
theorem But.none {p : Addr} {H H' : Hp} {a : Addr} (b : But p H H') (n : a ≠ p) (h : H' a = none) : H a = none := by
  cases e : H a with
  | none => rfl
  | some o =>
    have := b _ _ n e
    rw [h] at this
    cases this
def tflds (o t : Addr) : List (Str × V) := putF "table" (.ref t) (putF "outputs" (.ref o) [])
theorem kot : ¬ (("outputs" : Str) = "table") := by decide +kernel
theorem tf_o (o t : Addr) : (tflds o t).lookup ("outputs" : Str) = some (.ref o) := by
  unfold tflds
  rw [lookup_putF, if_neg kot, lookup_putF, if_pos rfl]
theorem tf_t (o t : Addr) : (tflds o t).lookup ("table" : Str) = some (.ref t) := by
  unfold tflds
  rw [lookup_putF, if_pos rfl]
theorem tf_no (o t : Addr) {m : Str} (h1 : ¬ m = "outputs") (h2 : ¬ m = "table") : (tflds o t).lookup m = none := by
  unfold tflds
  rw [lookup_putF, if_neg h2, lookup_putF, if_neg h1]
  rfl
/-- a told word at m, its parts at L -/
def ToldP (C : Addr) (H : Hp) (L : List Addr) (m : Addr) (T : List (List Int)) (outs : List Int) : Prop := ∃ dx o t rs, L = m :: o :: t :: rs ∧ H m = some (.ins C dx (tflds o t)) ∧ H o = some (.lst (outs.map V.int)) ∧ H t = some (.lst (rs.map V.ref)) ∧ RowsAt H rs T
section
variable {C : Addr} {H H' : Hp} {L : List Addr} {m q : Addr} {T : List (List Int)} {outs : List Int}
theorem ToldP.but (h : ToldP C H L m T outs) (b : But q H H') (n : q ∉ L) : ToldP C H' L m T outs := by
  obtain ⟨dx, o, t, rs, rfl, h1, h2, h3, h4⟩ := h
  simp only [List.mem_cons, not_or] at n
  exact ⟨dx, o, t, rs, rfl, b _ _ (fun e => n.1 e.symm) h1, b _ _ (fun e => n.2.1 e.symm) h2, b _ _ (fun e => n.2.2.1 e.symm) h3, h4.but b fun r hr e => n.2.2.2 (e ▸ hr)⟩
theorem ToldP.same (h : ToldP C H L m T outs) (s : Same H H') : ToldP C H' L m T outs := by
  obtain ⟨dx, o, t, rs, rfl, h1, h2, h3, h4⟩ := h
  exact ⟨dx, o, t, rs, rfl, s _ _ h1, s _ _ h2, s _ _ h3, h4.same s⟩
theorem ToldP.free (h : ToldP C H L m T outs) (hq : H q = none) : q ∉ L := by
  obtain ⟨dx, o, t, rs, rfl, h1, h2, h3, h4⟩ := h
  intro z
  simp only [List.mem_cons] at z
  rcases z with rfl | rfl | rfl | z
  · rw [hq] at h1; cases h1
  · rw [hq] at h2; cases h2
  · rw [hq] at h3; cases h3
  · obtain ⟨r, _, e⟩ := h4.some z
    rw [hq] at e; cases e
end
/-- a row of a table, changed nowhere else -/
theorem RowsAt.not {H : Hp} {rs : List Addr} {T : List (List Int)} {q : Addr} (h : RowsAt H rs T) (hq : ∀ r : List Int, H q ≠ Option.some (.lst (r.map V.int))) : q ∉ rs := fun z => by
  obtain ⟨r, _, e⟩ := h.some z
  exact hq r e
theorem RowsAt.free {H : Hp} {rs : List Addr} {T : List (List Int)} {q : Addr} (h : RowsAt H rs T) (hq : H q = none) : q ∉ rs := fun z => by
  obtain ⟨r, _, e⟩ := h.some z
  rw [hq] at e
  cases e
/-- the output that a word has at a number -/
def outOf (T : List (List Int)) (outs : List Int) (n : Nat) : Int := outs.getD (runT T 0 (dg n)) 0
theorem TOk.run {T : List (List Int)} {outs : List Int} (h : TOk T outs) {ds : List Nat} (b : Bits ds) : runT T 0 ds < T.length := runT_lt h.good ds 0 b h.pos
theorem TOk.at_ {T : List (List Int)} {outs : List Int} (h : TOk T outs) {s : Nat} (hs : s < T.length) : outs[s]? = some (outs.getD s 0) := by
  rw [List.getD_eq_getElem?_getD, List.getElem?_eq_getElem (by rw [h.al]; exact hs)]
  rfl
theorem TOk.pad {T : List (List Int)} {outs : List Int} (h : TOk T outs) (n k : Nat) : outs[runT T 0 (bitsL n (blen n + k))]? = some (outOf T outs n) := by
  rw [bits_pad, runT_app, h.zeros k _ (h.run (dg_bits n)), h.at_ (h.run (dg_bits n))]
  rfl
theorem bitsL_snoc (n k : Nat) : bitsL n (k + 1) = bitsL n k ++ [n / 2 ^ k % 2] := by
  unfold bitsL
  rw [List.range_succ, List.map_append]
  rfl
theorem wd_dg (n : Nat) : wd [n] = dg n := by
  unfold dg wd bitsL bitAt bls bls
  rw [Nat.max_eq_left (Nat.zero_le _)]
  refine List.map_congr_left fun k _ => ?_
  show n / 2 ^ k % 2 + 2 * 0 = _
  omega
theorem TOk.mach {T : List (List Int)} {outs : List Int} (h : TOk T outs) (o : Int) : MOk 1 T (outs.map fun x => decide (x = o)) := by
  refine ⟨by decide, h.pos, by have := h.le; omega, h.good, by rw [List.length_map, h.al], fun i hi => ?_⟩
  rw [List.getElem?_map, List.getElem?_map, h.set i hi]
theorem TOk.acc {T : List (List Int)} {outs : List Int} (h : TOk T outs) (o : Int) (n : Nat) : (outs.map fun x => decide (x = o)).getD (runT T 0 (wd [n])) false = decide (outOf T outs n = o) := by
  rw [wd_dg, List.getD_eq_getElem?_getD, List.getElem?_map, h.at_ (h.run (dg_bits n))]
  rfl
end Dw
namespace Dw
open PySem PySem.Spec PyProof.Rows L2 SX
theorem ixN_at {n j : Nat} (hj : j < n) : ixN n (j : Int) = some j := by
  unfold ixN
  rw [if_pos (by omega), if_pos (by omega)]
  simp
theorem setL_of {p : Addr} {xs : List V} {j : Nat} {v : V} {H : Hp} {R : Hp → Prop} (h : H p = some (.lst xs)) (hj : j < xs.length) (q : R (upd H p (.lst (xs.set j v)))) : L2.rSetL (.ref p) (.int (j : Nat)) v H R := ⟨p, xs, j, j, rfl, rfl, h, ixN_at hj, q⟩
end Dw
namespace K33
open PySem PySem.Spec PyProof.Rows L2 SX Dw
def topS (i : Nat) : Stmt := PySem.Challenge.pw_digitwise_k33_told_words.main.body.getD i (.Pass ⟨0, 0, 0, 0⟩)
abbrev s__wall : Stmt := topS 0
abbrev N__wall : List Str := ["k"]
theorem sc__wall : FnScope N__wall ["k"] (C8.fnScope s__wall) := C8.fnScope_by (by decide +kernel)
abbrev s_is_output : Stmt := topS 7
abbrev N_is_output : List Str := ["value"]
theorem sc_is_output : FnScope N_is_output ["value"] (C8.fnScope s_is_output) := C8.fnScope_by (by decide +kernel)
abbrev s_letters : Stmt := topS 9
abbrev N_letters : List Str := ["width"]
theorem sc_letters : FnScope N_letters ["width"] (C8.fnScope s_letters) := C8.fnScope_by (by decide +kernel)
abbrev s_digit : Stmt := topS 10
abbrev N_digit : List Str := ["letter", "track"]
theorem sc_digit : FnScope N_digit ["letter", "track"] (C8.fnScope s_digit) := C8.fnScope_by (by decide +kernel)
abbrev s_letter_of : Stmt := topS 11
abbrev N_letter_of : List Str := ["digits", "track", "value"]
theorem sc_letter_of : FnScope N_letter_of ["digits"] (C8.fnScope s_letter_of) := C8.fnScope_by (by decide +kernel)
abbrev s_word_of : Stmt := topS 12
abbrev N_word_of : List Str := ["numbers", "length", "place", "number"]
theorem sc_word_of : FnScope N_word_of ["numbers"] (C8.fnScope s_word_of) := C8.fnScope_by (by decide +kernel)
abbrev s_is_table : Stmt := topS 17
abbrev N_is_table : List Str := ["table", "length", "row", "successor"]
theorem sc_is_table : FnScope N_is_table ["table", "length"] (C8.fnScope s_is_table) := C8.fnScope_by (by decide +kernel)
abbrev s_is_state : Stmt := topS 18
abbrev N_is_state : List Str := ["value", "size"]
theorem sc_is_state : FnScope N_is_state ["value", "size"] (C8.fnScope s_is_state) := C8.fnScope_by (by decide +kernel)
abbrev s_check_width : Stmt := topS 19
abbrev N_check_width : List Str := ["width"]
theorem sc_check_width : FnScope N_check_width ["width"] (C8.fnScope s_check_width) := C8.fnScope_by (by decide +kernel)
abbrev s__law_wide : Stmt := topS 24
abbrev N__law_wide : List Str := ["script", "k", "cell", "mixed"]
theorem sc__law_wide : FnScope N__law_wide ["script", "k"] (C8.fnScope s__law_wide) := C8.fnScope_by (by decide +kernel)
abbrev s__law_take : Stmt := topS 25
abbrev N__law_take : List Str := ["pool", "most", "taken"]
theorem sc__law_take : FnScope N__law_take ["pool", "most"] (C8.fnScope s__law_take) := C8.fnScope_by (by decide +kernel)
abbrev s__law_pool : Stmt := topS 26
abbrev N__law_pool : List Str := ["script"]
theorem sc__law_pool : FnScope N__law_pool ["script"] (C8.fnScope s__law_pool) := C8.fnScope_by (by decide +kernel)
abbrev s__law_number : Stmt := topS 27
abbrev N__law_number : List Str := ["pool", "choice"]
theorem sc__law_number : FnScope N__law_number ["pool"] (C8.fnScope s__law_number) := C8.fnScope_by (by decide +kernel)
abbrev s__law_told_states : Stmt := topS 28
abbrev N__law_told_states : List Str := ["pool", "size", "k", "table", "outputs", "state", "seen", "ring"]
theorem sc__law_told_states : FnScope N__law_told_states ["pool"] (C8.fnScope s__law_told_states) := C8.fnScope_by (by decide +kernel)
abbrev s__law_at : Stmt := topS 29
abbrev N__law_at : List Str := ["outputs", "table", "number", "more", "state", "k"]
theorem sc__law_at : FnScope N__law_at ["outputs", "table", "number", "more"] (C8.fnScope s__law_at) := C8.fnScope_by (by decide +kernel)
abbrev s_law : Stmt := topS 30
abbrev N_law : List Str := ["script", "pool", "told", "given", "word", "outputs", "machines", "k", "number", "due", "answer", "j", "output", "row"]
theorem sc_law : FnScope N_law ["script"] (C8.fnScope s_law) := C8.fnScope_by (by decide +kernel)
abbrev s_Machine___init__ : Stmt := (C8.clsBody (topS 16)).getD 0 (.Pass ⟨0, 0, 0, 0⟩)
abbrev N_Machine___init__ : List Str := ["self", "width", "table", "accepting", "state", "row"]
theorem sc_Machine___init__ : FnScope N_Machine___init__ ["self", "width", "table", "accepting"] (C8.fnScope s_Machine___init__) := C8.fnScope_by (by decide +kernel)
abbrev s_Machine_behind : Stmt := (C8.clsBody (topS 16)).getD 2 (.Pass ⟨0, 0, 0, 0⟩)
abbrev N_Machine_behind : List Str := ["self", "word", "state", "letter"]
theorem sc_Machine_behind : FnScope N_Machine_behind ["self", "word"] (C8.fnScope s_Machine_behind) := C8.fnScope_by (by decide +kernel)
abbrev s_Machine_accepts : Stmt := (C8.clsBody (topS 16)).getD 3 (.Pass ⟨0, 0, 0, 0⟩)
abbrev N_Machine_accepts : List Str := ["self", "word"]
theorem sc_Machine_accepts : FnScope N_Machine_accepts ["self", "word"] (C8.fnScope s_Machine_accepts) := C8.fnScope_by (by decide +kernel)
abbrev s_Machine_takes : Stmt := (C8.clsBody (topS 16)).getD 4 (.Pass ⟨0, 0, 0, 0⟩)
abbrev N_Machine_takes : List Str := ["self", "numbers"]
theorem sc_Machine_takes : FnScope N_Machine_takes ["self", "numbers"] (C8.fnScope s_Machine_takes) := C8.fnScope_by (by decide +kernel)
abbrev s_Told___init__ : Stmt := (C8.clsBody (topS 22)).getD 0 (.Pass ⟨0, 0, 0, 0⟩)
abbrev N_Told___init__ : List Str := ["self", "outputs", "table", "state", "row", "output"]
theorem sc_Told___init__ : FnScope N_Told___init__ ["self", "outputs", "table"] (C8.fnScope s_Told___init__) := C8.fnScope_by (by decide +kernel)
abbrev s_Told_output : Stmt := (C8.clsBody (topS 22)).getD 1 (.Pass ⟨0, 0, 0, 0⟩)
abbrev N_Told_output : List Str := ["self", "number", "state"]
theorem sc_Told_output : FnScope N_Told_output ["self", "number"] (C8.fnScope s_Told_output) := C8.fnScope_by (by decide +kernel)
abbrev s_Told_machine : Stmt := (C8.clsBody (topS 22)).getD 2 (.Pass ⟨0, 0, 0, 0⟩)
abbrev N_Told_machine : List Str := ["self", "output", "each"]
theorem sc_Told_machine : FnScope N_Told_machine ["self", "output"] (C8.fnScope s_Told_machine) := C8.fnScope_by (by decide +kernel)
local macro_rules | `(tactic| walk_at "rd") => `(tactic| simp only [tSeq, tNext, tAsg, gName, tRet, tRetN, tIfS, tDrop, tVar, tC, tOp, tUn, tTest, tCB, tCons, tNil, tB, tAnd, tOr, tNot, tAndV, tOrV, tNotV, tIf, tCall, tTup, tLst, tSl, tPart, tNoPart, tM0, tM1, tBM, tChain, tBreak, tCont, tNever, tAug, ipI, tPar, tyV_str,
  tFor_eq, tLc_eq, tYes, wipe, Int.zero_add, gNil, gCons, gTup, gSub, iRng1, iRng2, iList, iTup, iStr, rI0, rI, rU, rEq, rNe, rIxL, rIxT, rIxS, Dw.rLen, rListOf, rTupOf, rNotB, rIsB, rMulS, rIn, rCat, rAppend, rCatA, C8.rSlX, tDGet, rMin, tFd, tFs, tMeth, tMake, rAll, tCKw, tBits, rSum, rMaxDf, iEnum, Int.toNat_natCast, tDGet2, tDIn, tDNotIn, rAll, tBM0, rPop, rExtend, tDNewK, tDisp, tPairs, L2.start, cxOf_K, cxOf_w, cxOf_prog,
  List.map_cons, List.map_nil, List.length_cons, List.length_nil, List.replicate, List.cons_append, List.nil_append, Nat.reduceAdd, Nat.reduceSub, Nat.zero_add, List.append_nil,
  List.set_cons_zero, List.set_cons_succ, List.getElem?_cons_zero, List.getElem?_cons_succ, Option.some.injEq, V.int.injEq, V.bl.injEq, V.ref.injEq, V.str.injEq, V.ty.injEq, List.cons.injEq, and_true, true_and, reduceCtorEq, false_and, exists_false, or_false, false_or, exists_eq_left, exists_eq_left', exists_eq', sw_S, an_S, exists_and_left, exists_const, exists_eq, decide_eq_true_eq, Bool.false_eq_true, if_true, if_false, Bool.not_eq_true', decide_eq_false_iff_not, Bool.not_true, Bool.not_false, ite_not, scal, and_false])
local macro_rules | `(tactic| walk_at "ne") => `(tactic| first
  | assumption
  | exact Ne.symm (by assumption)
  | exact Pool.ne (by assumption) (by assumption)
  | exact Ne.symm (Pool.ne (by assumption) (by assumption))
  | (refine ne_of_none ?_ (by assumption); walk_at "hp")
  | (refine Ne.symm (ne_of_none ?_ (by assumption)); walk_at "hp"))
local macro_rules | `(tactic| walk_at "hp") => `(tactic| first
  | assumption
  | exact upd_same
  | (refine Eq.trans (upd_ne (by walk_at "ne")) ?_; walk_at "hp")
  | (refine Same.get (by assumption) ?_; walk_at "hp")
  | (refine But.get (by assumption) (by walk_at "ne") ?_; walk_at "hp"))
section
variable {P : Program} {w : World} {K : PySem.W.Frag} {mg : Str → Option Value} {base : Heap}
def sp_letters : Sp := fun vs H Q _ => ∃ n : Nat, vs = [nv n] ∧ n ≤ 1000 ∧ Q (nv (2 ^ n)) H
theorem c_letters {f : Addr} {fd : FuncData} (D : C8.Def K mg "letters" s_letters f fd) (b : Binds K fd ["width"] [])  : C8.Cal P w K mg base 1 "letters" sp_letters [] := by
  refine C8.cal0 D b .nil sc_letters (fun vs H Q E h => ?_) (fun cdv A outer s H vs Q E hr h => ?_)
  · obtain ⟨_, rfl, _⟩ := h
    rfl
  · obtain ⟨n, rfl, hn, ok⟩ := h
    refine ⟨_, (pss_one (ps_ret (pe_op op_shlW pe_int (pv 0)))), ?_⟩
    walk_at "rd"
    refine ⟨shlN (n := 1) (b := 1) (by decide) (by omega), ?_⟩
    rw [i_one]
    exact ok
def sp_digit : Sp := fun vs H Q _ => ∃ n k : Nat, vs = [nv n, nv k] ∧ Q (nv (n / 2 ^ k % 2)) H
theorem c_digit {f : Addr} {fd : FuncData} (D : C8.Def K mg "digit" s_digit f fd) (b : Binds K fd ["letter", "track"] [])  : C8.Cal P w K mg base 1 "digit" sp_digit [] := by
  refine C8.cal0 D b .nil sc_digit (fun vs H Q E h => ?_) (fun cdv A outer s H vs Q E hr h => ?_)
  · obtain ⟨_, _, rfl, _⟩ := h
    rfl
  · obtain ⟨n, k, rfl, ok⟩ := h
    refine ⟨_, (pss_one (ps_ret (pe_op op_and (pe_op op_shr (pv 0) (pv 1)) pe_int))), ?_⟩
    walk_at "rd"
    refine ⟨Int.natCast_nonneg _, ?_⟩
    rw [i_dig]
    exact ok
def sp_letter_of (K : PySem.W.Frag) : Sp := fun vs H Q _ => ∃ (a : Addr) (ds : List Nat), vs = [.ref a] ∧ SqL K H a (ds.map nv) ∧ Bits ds ∧ ds.length ≤ 2000 ∧ ∀ H', Same H H' → Q (nv (lo ds)) H'
theorem c_letter_of {f : Addr} {fd : FuncData} (D : C8.Def K mg "letter_of" s_letter_of f fd) (b : Binds K fd ["digits"] []) (z_sum : mg "sum" = none) (z_enumerate : mg "enumerate" = none) : C8.Cal P w K mg base 1 "letter_of" (sp_letter_of K) [] := by
  refine C8.cal0 D b .nil sc_letter_of (fun vs H Q E h => ?_) (fun cdv A outer s H vs Q E hr h => ?_)
  · obtain ⟨_, _, rfl, _⟩ := h
    rfl
  · obtain ⟨a, ds, rfl, hl, hb, hn, ok⟩ := h
    refine ⟨_, (pss_one (ps_ret (pe_callB (sumK K) (by rfl) z_sum (by decide +kernel) (pa_cons (pe_lc (own := [("track", 1), ("value", 2)]) (g := (gTup K 2 (gCons (gName 1) (gCons (gName 2) gNil)))) (tt := tYes) rfl sc_letter_of.nd (piE K (by rfl) z_enumerate (pa_cons (pv 0) pa_nil)) (blkOk_by (N := N_letter_of) (sc := C8.fnScope s_letter_of) (by decide +kernel)) (fun _ _ _ _ _ => (pg_tup (n := 2) rfl (pgs_cons (pg_name (i := 1) sc_letter_of.nd rfl (by first | exact Or.inl rfl | exact Or.inr rfl)) (pgs_cons (pg_name (i := 2) sc_letter_of.nd rfl (by first | exact Or.inl rfl | exact Or.inr rfl)) pgs_nil)))) (fun _ _ _ _ _ => pts_nil) (fun _ _ _ _ _ => (pe_op op_shlW (pv 2) (pv 1)))) pa_nil)))), ?_⟩
    walk_at "rd"
    refine ⟨_, hl, fun D hD => ?_⟩
    refine lc_map (walk_enum (xs := ds.map nv)) (fun i => .int (((ds.getD i 0 : Nat) : Int) * 2 ^ (i + 0))) (by rw [List.length_map]; omega) hD (fun H s => s.seq hl) ?_ ?_
    · rintro i x H1 H2 N hi s1 ⟨T, y, z, rfl, hT, rfl, ey, ez⟩ hN
      cases ey
      rw [List.length_map] at hi
      replace ez : (ds.map nv)[i]? = some z := ez
      rw [List.getElem?_map, List.getElem?_eq_getElem hi] at ez
      cases ez
      walk_at "rd"
      refine ⟨_, SqT.of upd_same, rfl, _, _, rfl, _, _, rfl, rfl, _, rfl, _, rfl, shlN (b := 1) (hb _ (List.getElem_mem hi)) (by omega), ?_⟩
      have h := hN _ (same_upd (o := .tup [V.int (i : Nat), V.int ((ds[i] : Nat) : Int)]) hT)
      rw [List.getD_eq_getElem?_getD, List.getElem?_eq_getElem hi] at h
      exact h
    · intro H1 s1 h1
      refine ⟨(List.range ds.length).map fun i => ((ds.getD i 0 : Nat) : Int) * 2 ^ (i + 0), ?_, ?_⟩
      · rw [List.length_map] at h1
        rw [List.map_map]
        exact SqL.of h1
      · rw [lo_sum]
        have e : (lo ds : Int) * 2 ^ 0 = (lo ds : Int) := by rw [Int.pow_zero, Int.mul_one]
        rw [e]
        exact ok _ s1
def sp_word_of (K : PySem.W.Frag) : Sp := fun vs H Q _ => ∃ (a : Addr) (ns : List Nat), vs = [.ref a] ∧ SqT K H a (ns.map nv) ∧ ns.length ≤ 64 ∧ (∀ n ∈ ns, n < 2 ^ 1000) ∧ ∀ p H', Same H H' → H p = none → H' p = some (.lst ((wd ns).map nv)) → Q (.ref p) H'
theorem c_word_of {f : Addr} {fd : FuncData} (D : C8.Def K mg "word_of" s_word_of f fd) (b : Binds K fd ["numbers"] []) (c_digit : C8.Cal P w K mg base 1 "digit" sp_digit []) (c_letter_of : C8.Cal P w K mg base 1 "letter_of" (sp_letter_of K) []) (z_max : mg "max" = none) (z_range : mg "range" = none) : C8.Cal P w K mg base 2 "word_of" (sp_word_of K) [] := by
  refine C8.cal0 D b .nil sc_word_of (fun vs H Q E h => ?_) (fun cdv A outer s H vs Q E hr h => ?_)
  · obtain ⟨_, _, rfl, _⟩ := h
    rfl
  · obtain ⟨a, ns, rfl, hl, hn, hb, ok⟩ := h
    refine ⟨_, (pss_cons (ps_set (i := 1) sc_word_of.nd rfl (by first | exact Or.inl rfl | exact Or.inr rfl) (pe_callBK (cr_maxDf K) (by rfl) z_max (by decide +kernel) (pa_cons (pe_lc (own := [("number", 3)]) (g := (gName 3)) (tt := tYes) rfl sc_word_of.nd (piT K (pv 0)) (blkOk_by (N := N_word_of) (sc := C8.fnScope s_word_of) (by decide +kernel)) (fun _ _ _ _ _ => (pg_name (i := 3) sc_word_of.nd rfl (by first | exact Or.inl rfl | exact Or.inr rfl))) (fun _ _ _ _ _ => pts_nil) (fun _ _ _ _ _ => (pe_bits (pv 3)))) pa_nil) (pk_cons pe_int pk_nil))) (pss_one (ps_ret (pe_lc (own := [("place", 2)]) (g := (gName 2)) (tt := tYes) rfl sc_word_of.nd (pi_range1 (by rfl) z_range (pa_cons (pv 1) pa_nil)) (blkOk_by (N := N_word_of) (sc := C8.fnScope s_word_of) (by decide +kernel)) (fun _ _ _ _ _ => (pg_name (i := 2) sc_word_of.nd rfl (by first | exact Or.inl rfl | exact Or.inr rfl))) (fun _ _ _ _ _ => pts_nil) (fun _ _ _ _ _ => (C8.pe_c c_letter_of hr (by decide) (by rfl) (pa_cons (pe_lc (own := [("number", 3)]) (g := (gName 3)) (tt := tYes) rfl sc_word_of.nd (piT K (pv 0)) (blkOk_nm (N := N_word_of) [(".0", .local), ("place", .cell), ("letter_of", .globalImplicit), ("numbers", .cell)] (by rfl) (by decide +kernel)) (fun _ _ _ _ _ => (pg_name (i := 3) sc_word_of.nd rfl (by first | exact Or.inl rfl | exact Or.inr rfl))) (fun _ _ _ _ _ => pts_nil) (fun _ _ _ _ _ => (C8.pe_c c_digit hr (by decide) (by rfl) (pa_cons (pv 3) (pa_cons (pv 2) pa_nil))))) pa_nil))))))), ?_⟩
    walk_at "rd"
    have hk : ∀ H', Same H H' → SqT K H' a (ns.map nv) := fun H' s => sameT s hl
    have hbl : bls ns ≤ 1000 := bls_le hb
    refine ⟨⟨_, hl⟩, fun D hD => ?_⟩
    refine lc_map (walk_tup (xs := ns.map nv)) (fun i => nv (blen (ns.getD i 0))) (by rw [List.length_map]; omega) hD hk ?_ ?_
    · rintro i x H1 H2 N hi s1 ⟨rfl, ez⟩ hN
      rw [List.length_map] at hi
      rw [List.getElem?_map, List.getElem?_eq_getElem hi] at ez
      cases ez
      walk_at "rd"
      have h := hN _ (Same.refl _)
      rw [List.getD_eq_getElem?_getD, List.getElem?_eq_getElem hi] at h
      exact h
    · intro H1 s1 h1
      have e1 : (List.range ns.length).map (fun i => nv (blen (ns.getD i 0))) = (ns.map fun n => ((blen n : Nat) : Int)).map V.int := by
        refine List.ext_getElem (by simp) fun i p q => ?_
        have hi : i < ns.length := by simpa using p
        simp only [List.getElem_map, List.getElem_range]
        rw [List.getD_eq_getElem?_getD, List.getElem?_eq_getElem hi]
        rfl
      rw [List.length_map, e1] at h1
      refine ⟨ns.map fun n => ((blen n : Nat) : Int), SqL.of h1, fun m hm1 hm2 => ?_⟩
      have em := bls_max hm1 hm2
      subst em
      refine ⟨by omega, by omega, fun D2 hD2 => ?_⟩
      refine lc_map walk_range (fun k => nv (lo (bitAt ns k))) (by omega) hD2 (fun _ _ => trivial) ?_ ?_
      · rintro k x H3 H4 N hk4 s3 ⟨rfl, rfl⟩ hN
        walk_at "rd"
        refine ⟨⟨_, hk _ (s1.trans s3)⟩, fun D3 hD3 => ?_⟩
        refine lc_map (walk_tup (xs := ns.map nv)) (fun i => nv ((ns.getD i 0) / 2 ^ k % 2)) (by rw [List.length_map]; omega) hD3 (fun H5 s5 => hk _ ((s1.trans s3).trans s5)) ?_ ?_
        · rintro i x H5 H6 N2 hi s5 ⟨rfl, ez⟩ hN2
          rw [List.length_map] at hi
          rw [List.getElem?_map, List.getElem?_eq_getElem hi] at ez
          cases ez
          walk_at "rd"
          refine ⟨ns[i], k, by simp, ?_⟩
          have h := hN2 _ (Same.refl _)
          rw [List.getD_eq_getElem?_getD, List.getElem?_eq_getElem hi] at h
          exact h
        · intro H5 s5 h5
          have e2 : (List.range ns.length).map (fun i => nv ((ns.getD i 0) / 2 ^ k % 2)) = (bitAt ns k).map nv := by
            refine List.ext_getElem (by simp [bitAt]) fun i p q => ?_
            have hi : i < ns.length := by simpa using p
            simp only [List.getElem_map, List.getElem_range, bitAt]
            rw [List.getD_eq_getElem?_getD, List.getElem?_eq_getElem hi]
            rfl
          rw [List.length_map, e2] at h5
          exact ⟨D3, bitAt ns k, rfl, SqL.of h5, bitAt_bits ns k, by rw [bitAt_len]; omega, fun H6 s6 => hN _ (s5.trans s6)⟩
      · intro H3 s3 h3
        rw [Int.toNat_natCast] at h3
        refine ok _ _ (s1.trans s3) (s1.free hD2) ?_
        unfold wd
        rw [List.map_map]
        exact h3
def sp_is_state : Sp := fun vs H Q _ => ∃ (i : Int) (n : Nat), vs = [.int i, nv n] ∧ Q (.bl (decide (0 ≤ i) && decide (i < (n : Int)))) H
theorem c_is_state {f : Addr} {fd : FuncData} (D : C8.Def K mg "is_state" s_is_state f fd) (b : Binds K fd ["value", "size"] []) (z_isinstance : mg "isinstance" = none) (z_int : mg "int" = none) (z_bool : mg "bool" = none) : C8.Cal P w K mg base 1 "is_state" sp_is_state [] := by
  refine C8.cal0 D b .nil sc_is_state (fun vs H Q E h => ?_) (fun cdv A outer s H vs Q E hr h => ?_)
  · obtain ⟨_, _, rfl, _⟩ := h
    rfl
  · obtain ⟨i, n, rfl, ok⟩ := h
    refine ⟨_, (pss_one (ps_ret (pe_and (pe_callB (isiK K) (by rfl) z_isinstance (by decide +kernel) (pa_cons (pv 0) (pa_cons (pe_bltn (by rfl) z_int (by decide +kernel) (v := .ty "int") rfl) pa_nil))) (pe_and (pe_not (pe_callB (isiK K) (by rfl) z_isinstance (by decide +kernel) (pa_cons (pv 0) (pa_cons (pe_bltn (by rfl) z_bool (by decide +kernel) (v := .ty "bool") rfl) pa_nil)))) (pe_one (pe_chain op_le op_lt pe_int (pv 0) (pv 1))))))), ?_⟩
    walk_at "rd"
    refine isi_of (.base (.int i)) (kit_ty (by decide +kernel) : _ = some true) ?_
    walk_at "rd"
    refine isi_of (.base (.int i)) (kit_ty (by decide +kernel) : _ = some false) ?_
    walk_at "rd"
    by_cases h : 0 ≤ i
    · rw [if_pos h]
      rw [decide_eq_true h, Bool.true_and] at ok
      exact ok
    · rw [if_neg h]
      rw [decide_eq_false h, Bool.false_and] at ok
      exact ok
def sp_is_table : Sp := fun vs H Q _ => ∃ (t : Addr) (rs : List Addr) (T : List (List Int)) (l : Nat), vs = [.ref t, nv l] ∧ H t = some (.lst (rs.map V.ref)) ∧ RowsAt H rs T ∧ T.length ≤ 500 ∧ (∀ r ∈ T, r.length ≤ 500) ∧ ∀ H', Same H H' → Q (.bl (goodT T l)) H'
theorem c_is_table {f : Addr} {fd : FuncData} (D : C8.Def K mg "is_table" s_is_table f fd) (b : Binds K fd ["table", "length"] []) (c_is_state : C8.Cal P w K mg base 1 "is_state" sp_is_state []) (z_len : mg "len" = none) (z_all : mg "all" = none) : C8.Cal P w K mg base 2 "is_table" sp_is_table [] := by
  refine C8.cal0 D b .nil sc_is_table (fun vs H Q E h => ?_) (fun cdv A outer s H vs Q E hr h => ?_)
  · obtain ⟨_, _, _, _, rfl, _⟩ := h
    rfl
  · obtain ⟨t, rs, T, l, rfl, ht, hr1, hn, hrn, ok⟩ := h
    refine ⟨_, (pss_cons (ps_for PassesOwn.never rfl (piL K (pv 0)) (pg_name (i := 2) sc_is_table.nd rfl (by first | exact Or.inl rfl | exact Or.inr rfl)) (pss_one (ps_if (PW.pt (pw_or (pt_cmpR (op_ne) (pe_callB (lenS K) (by rfl) z_len PySem.boot_len (pa_cons (pv 2) pa_nil)) (pv 1) (nomark _)) (pw_or1 (pt_not (pt_val (pe_callB (allQ K) (by rfl) z_all (by decide +kernel) (pa_cons (pe_lc (own := [("successor", 3)]) (g := (gName 3)) (tt := tYes) rfl sc_is_table.nd (piL K (pv 2)) (blkOk_by (N := N_is_table) (sc := C8.fnScope s_is_table) (by decide +kernel)) (fun _ _ _ _ _ => (pg_name (i := 3) sc_is_table.nd rfl (by first | exact Or.inl rfl | exact Or.inr rfl))) (fun _ _ _ _ _ => pts_nil) (fun _ _ _ _ _ => (C8.pe_c c_is_state hr (by decide) (by rfl) (pa_cons (pv 3) (pa_cons (pe_callB (lenS K) (by rfl) z_len PySem.boot_len (pa_cons (pv 0) pa_nil)) pa_nil))))) pa_nil))))))) (pss_one (ps_ret pe_bl)) pss_nil))) (pss_one (ps_ret pe_bl))), ?_⟩
    walk_at "rd"
    refine ⟨⟨_, SqL.of ht⟩, for_listN (xs := rs.map V.ref) (fun i σ H2 => (∃ o, σ = [some (.ref t), some (nv l), o, none]) ∧ Same H H2 ∧ (T.take i).all (goodRow T.length l) = true) ?_ ?_ ?_ ?_⟩
    · exact ⟨⟨none, rfl⟩, Same.refl _, rfl⟩
    · rintro i σ H2 _ ⟨_, s2, _⟩
      exact SqL.of (s2 _ _ ht)
    · rintro i x σ H2 N hx ⟨⟨o, rfl⟩, s2, hg⟩ hN
      rw [List.getElem?_map] at hx
      obtain ⟨a, ha, rfl⟩ := Option.map_eq_some_iff.mp hx
      have hi : i < T.length := by rw [← hr1.len]; exact (List.getElem?_eq_some_iff.mp ha).1
      have hT : T[i]? = some T[i] := List.getElem?_eq_getElem hi
      obtain ⟨r, hr0⟩ : ∃ r, r = T[i] := ⟨_, rfl⟩
      rw [← hr0] at hT
      have hrow := s2 _ _ (hr1.at_ i a r ha hT)
      have hrl := hrn r (List.mem_of_getElem? hT)
      have htk : (T.take (i + 1)).all (goodRow T.length l) = goodRow T.length l r := by
        rw [List.take_add_one, hT, List.all_append, hg]
        simp
      have bad : goodRow T.length l r = false → goodT T l = false := fun e => by
        unfold goodT
        rw [List.all_eq_false]
        exact ⟨r, List.mem_of_getElem? hT, by rw [e]; decide⟩
      walk_at "rd"
      refine ⟨_, .inl (SqL.of hrow), ?_⟩
      rw [List.length_map]
      by_cases hl : r.length = l
      · rw [if_pos (by omega)]
        refine ⟨⟨_, SqL.of hrow⟩, fun D hD => ?_⟩
        refine lc_map (walk_list (xs := r.map V.int)) (fun j => .bl (decide (0 ≤ r.getD j 0) && decide (r.getD j 0 < (T.length : Int)))) (by rw [List.length_map]; omega) hD (fun H5 s5 => s5.seq (SqL.of hrow)) ?_ ?_
        · rintro j x H5 H6 N2 hj s5 ⟨rfl, ez⟩ hN2
          rw [List.length_map] at hj
          rw [List.getElem?_map, List.getElem?_eq_getElem hj] at ez
          cases ez
          walk_at "rd"
          refine ⟨_, .inl (SqL.of ((s2.trans s5) _ _ ht)), r[j], T.length, ?_, ?_⟩
          · rw [List.length_map, hr1.len]
          · have h := hN2 _ (Same.refl _)
            rw [List.getD_eq_getElem?_getD, List.getElem?_eq_getElem hj] at h
            exact h
        · intro H5 s5 h5
          have e2 : (List.range r.length).map (fun j => V.bl (decide (0 ≤ r.getD j 0) && decide (r.getD j 0 < (T.length : Int)))) = (r.map fun x => decide (0 ≤ x) && decide (x < (T.length : Int))).map V.bl := by
            refine List.ext_getElem (by simp) fun j p q => ?_
            have hj : j < r.length := by simpa using p
            simp only [List.getElem_map, List.getElem_range]
            rw [List.getD_eq_getElem?_getD, List.getElem?_eq_getElem hj]
            rfl
          rw [List.length_map, e2] at h5
          refine ⟨_, SqL.of h5, ?_⟩
          have e3 : (r.map fun x => decide (0 ≤ x) && decide (x < (T.length : Int))).all id = goodRow T.length l r := by
            unfold goodRow
            rw [List.all_map, decide_eq_true hl, Bool.true_and]
            rfl
          rw [e3]
          cases hb : goodRow T.length l r with
          | true =>
            exact hN _ _ ⟨⟨_, rfl⟩, s2.trans s5, by rw [htk, hb]⟩
          | false =>
            have h := ok _ (s2.trans s5)
            rw [bad hb] at h
            exact h
      · rw [if_neg (by omega)]
        have h := ok _ s2
        rw [bad (by unfold goodRow; rw [decide_eq_false hl, Bool.false_and])] at h
        exact h
    · rintro σ H2 ⟨⟨o, rfl⟩, s2, hg⟩
      walk_at "rd"
      rw [List.length_map, hr1.len, List.take_length] at hg
      have h := ok _ s2
      unfold goodT at h
      rw [hg] at h
      exact h
def sp_check_width : Sp := fun vs H Q _ => ∃ w : Nat, vs = [nv w] ∧ w ≤ 6 ∧ Q .non H
theorem c_check_width {f : Addr} {fd : FuncData} (D : C8.Def K mg "check_width" s_check_width f fd) (b : Binds K fd ["width"] []) (g_TRACKS : ∃ u, mg "TRACKS" = some u ∧ RelV (.int 6) u) : C8.Cal P w K mg base 1 "check_width" sp_check_width [] := by
  refine C8.cal0 D b .nil sc_check_width (fun vs H Q E h => ?_) (fun cdv A outer s H vs Q E hr h => ?_)
  · obtain ⟨_, rfl, _⟩ := h
    rfl
  · obtain ⟨w, rfl, hw, ok⟩ := h
    refine ⟨_, (pss_one (ps_if (pt_not (pt_chain op_le op_le pe_int (pv 0) (C8.pe_gc (by rfl) g_TRACKS))) (pss_one ps_never) pss_nil)), ?_⟩
    walk_at "rd"
    rw [if_pos (by omega), if_pos (by omega)]
    exact ok
def sp_minit (C : Addr) : Sp := fun vs H Q _ => ∃ (m dx t a : Addr) (rs : List Addr) (w : Nat) (T : List (List Int)) (acc : List Bool), vs = [.ref m, nv w, .ref t, .ref a] ∧ H m = some (.ins C dx []) ∧ H t = some (.lst (rs.map V.ref)) ∧ RowsAt H rs T ∧ H a = some (.lst (acc.map V.bl)) ∧ MOk w T acc ∧
  ∀ H', But m H H' → MachNew C H H' m w T acc → Q .non H'
theorem k_Machine {f : Addr} {fd : FuncData} {CM : Addr} (M : Mk K CM f) (hm : mg "Machine" = some (.ref CM)) (c_M : Cls K CM) (F : C8.Fun K "__init__" "Machine.__init__" s_Machine___init__ f fd) (b : Binds K fd ["self", "width", "table", "accepting"] []) (n_width : NoAttr K CM "width") (n_table : NoAttr K CM "table") (n_accepting : NoAttr K CM "accepting") (c_check_width : C8.Cal P w K mg base 1 "check_width" sp_check_width []) (c_is_table : C8.Cal P w K mg base 2 "is_table" sp_is_table []) (c_letters : C8.Cal P w K mg base 1 "letters" sp_letters []) (z_len : mg "len" = none) (z_enumerate : mg "enumerate" = none) (z_list : mg "list" = none) (g_STATES : ∃ u, mg "STATES" = some u ∧ RelV (.int 400) u) : C8.Mak P w K mg base 3 "Machine" CM (sp_minit CM) [] := by
  refine C8.mak0 M hm F b .nil sc_Machine___init__ (fun vs H Q E h => ?_) (fun cdv A outer s H vs Q E hr h => ?_)
  · obtain ⟨_, _, _, _, _, _, _, _, rfl, _⟩ := h
    rfl
  · obtain ⟨m, dx, t, a, rs, w, T, acc, rfl, hm, ht, hr1, ha, ok0, ok⟩ := h
    refine ⟨_, (pss_cons (ps_expr (C8.pe_c c_check_width hr (by decide) (by rfl) (pa_cons (pv 1) pa_nil))) (pss_cons (ps_if (pt_cmpR (op_gt) (pe_callB (lenS K) (by rfl) z_len PySem.boot_len (pa_cons (pv 2) pa_nil)) (C8.pe_gc (by rfl) g_STATES) (nomark _)) (pss_one ps_never) pss_nil) (pss_cons (ps_if (PW.pt (pw_or (pt_cmpR (op_eq) (pe_callB (lenS K) (by rfl) z_len PySem.boot_len (pa_cons (pv 2) pa_nil)) pe_int (nomark _)) (pw_or (pt_cmpR (op_ne) (pe_callB (lenS K) (by rfl) z_len PySem.boot_len (pa_cons (pv 3) pa_nil)) (pe_callB (lenS K) (by rfl) z_len PySem.boot_len (pa_cons (pv 2) pa_nil)) (nomark _)) (pw_or1 (pt_not (pt_val (C8.pe_c c_is_table hr (by decide) (by rfl) (pa_cons (pv 2) (pa_cons (C8.pe_c c_letters hr (by decide) (by rfl) (pa_cons (pv 1) pa_nil)) pa_nil))))))))) (pss_one ps_never) pss_nil) (C8.pss_cut (ps_for PassesOwn.never rfl (piE K (by rfl) z_enumerate (pa_cons (pv 2) pa_nil)) (pg_tup (n := 2) rfl (pgs_cons (pg_name (i := 4) sc_Machine___init__.nd rfl (by first | exact Or.inl rfl | exact Or.inr rfl)) (pgs_cons (pg_name (i := 5) sc_Machine___init__.nd rfl (by first | exact Or.inl rfl | exact Or.inr rfl)) pgs_nil))) (pss_one (ps_if (pt_cmpR (op_ne) (pe_ix (ixL K) (pv 3) (pv 4) (fun _ _ => rfl)) (pe_ix (ixL K) (pv 3) (pe_ix (ixL K) (pv 5) pe_int (fun _ _ => rfl)) (fun _ _ => rfl)) (nomark _)) (pss_one ps_never) pss_nil))) (pss_cons (ps_fldK K (pv 0) (pv 1) (by rfl)) (pss_cons (ps_fldK K (pv 0) (pe_lc (own := [("row", 5)]) (g := (gName 5)) (tt := tYes) rfl sc_Machine___init__.nd (piL K (pv 2)) (blkOk_by (N := N_Machine___init__) (sc := C8.fnScope s_Machine___init__) (by decide +kernel)) (fun _ _ _ _ _ => (pg_name (i := 5) sc_Machine___init__.nd rfl (by first | exact Or.inl rfl | exact Or.inr rfl))) (fun _ _ _ _ _ => pts_nil) (fun _ _ _ _ _ => (pe_callTy (listOf K) (by rfl) z_list (by decide +kernel) (pa_cons (pv 5) pa_nil)))) (by rfl)) (pss_one (ps_fldK K (pv 0) (pe_callTy (listOf K) (by rfl) z_list (by decide +kernel) (pa_cons (pv 3) pa_nil)) (by rfl))))))))), ?_⟩
    walk_at "rd"
    have hT0 : ((rs.map V.ref).length : Int) = (T.length : Int) := by rw [List.length_map, hr1.len]
    have hacc : ((acc.map V.bl).length : Int) = (T.length : Int) := by rw [List.length_map, ok0.al]
    have hpos := ok0.pos
    have hle := ok0.le
    have hrw : ∀ r ∈ T, r.length = 2 ^ w := fun r hr2 => by
      have h1 := List.all_eq_true.mp ok0.good r hr2
      unfold goodRow at h1
      rw [Bool.and_eq_true, decide_eq_true_eq] at h1
      exact h1.1
    have h64 : 2 ^ w ≤ 64 := Nat.pow_le_pow_right (by decide) ok0.w6
    refine ⟨w, rfl, ok0.w6, _, .inl (SqL.of ht), ?_⟩
    rw [hT0, if_neg (by omega)]
    refine ⟨_, .inl (SqL.of ht), ?_⟩
    rw [hT0, if_neg (by omega)]
    refine ⟨_, .inl (SqL.of ha), _, .inl (SqL.of ht), ?_⟩
    rw [hT0, hacc, if_pos rfl]
    refine ⟨w, rfl, by have := ok0.w6; omega, t, rs, T, 2 ^ w, rfl, ht, hr1, by omega, fun r hr2 => by rw [hrw r hr2]; omega, fun H1 s1 => ?_⟩
    rw [ok0.good]
    refine ⟨true, rfl, ?_⟩
    rw [if_neg (by decide)]
    refine cut_by (fun σ' H' => (∃ o1 o2, σ' = [some (V.ref m), some (nv w), some (.ref t), some (.ref a), o1, o2]) ∧ Same H1 H') (fun N hN => ?_) ?_
    · walk_at "rd"
      refine ⟨_, SqL.of (s1 _ _ ht), for_enumN (xs := rs.map V.ref) (fun i σ H2 => (∃ o1 o2, σ = [some (V.ref m), some (nv w), some (.ref t), some (.ref a), o1, o2]) ∧ Same H1 H2) ?_ ?_ ?_ ?_⟩
      · exact ⟨⟨_, _, rfl⟩, Same.refl _⟩
      · rintro i σ H2 _ ⟨_, s2⟩
        exact SqL.of (s2 _ _ (s1 _ _ ht))
      · rintro i x Tp σ H2 N2 hx ⟨⟨o1, o2, rfl⟩, s2⟩ hTp hN2
        rw [List.getElem?_map] at hx
        obtain ⟨ra, hra, rfl⟩ := Option.map_eq_some_iff.mp hx
        have hi : i < T.length := by rw [← hr1.len]; exact (List.getElem?_eq_some_iff.mp hra).1
        obtain ⟨r, er, e0, lt0⟩ := goodT_at ok0.good hi (a := 0) (Nat.two_pow_pos w)
        have s3 : Same H2 (upd H2 Tp (.tup [V.int (i : Nat), V.ref ra])) := same_upd hTp
        have sA := (s1.trans s2).trans s3
        have hrow := sA _ _ (hr1.at_ i ra r hra er)
        have haA := sA _ _ ha
        have hset := ok0.set i hi
        have hia : i < acc.length := by rw [ok0.al]; exact hi
        obtain ⟨bb, hbb⟩ : ∃ bb, acc[i]? = some bb := ⟨acc[i], List.getElem?_eq_getElem hia⟩
        walk_at "rd"
        refine ⟨_, SqT.of upd_same, rfl, _, _, rfl, _, _, rfl, rfl, _, _, rfl, SqL.of haA, .bl bb, at_map hbb, ?_⟩
        refine ⟨ra, rfl, _, SqL.of hrow, _, at_map e0, _, _, rfl, SqL.of haA, .bl bb, at_map (hset ▸ hbb), rfl, ?_⟩
        rw [if_pos rfl]
        exact hN2 _ _ ⟨⟨_, _, rfl⟩, s2.trans s3⟩
      · rintro σ H2 ⟨⟨o1, o2, rfl⟩, s2⟩
        exact hN _ _ ⟨⟨_, _, rfl⟩, s2⟩
    · rintro σ' H2 ⟨⟨o1, o2, rfl⟩, s2⟩
      walk_at "rd"
      have sA := s1.trans s2
      have hm2 := sA _ _ hm
      refine flds_of c_M n_width hm2 (by decide) ?_
      obtain ⟨H3, hH3⟩ : ∃ H3, H3 = upd H2 m (.ins CM dx (putF "width" (nv w) [])) := ⟨_, rfl⟩
      have e3 : upd H2 m (.ins CM dx (putF (Str.ofString "width") (nv w) [])) = H3 := hH3.symm
      rw [e3]
      have hm3 : H3 m = some (.ins CM dx (putF "width" (nv w) [])) := by rw [hH3, upd_same]
      have b3 : But m H2 H3 := hH3 ▸ But.upd
      have ntm : t ≠ m := ne_of ht hm (by intro z; cases z)
      have nam : a ≠ m := ne_of ha hm (by intro z; cases z)
      have ht3 := b3 _ _ ntm (sA _ _ ht)
      have nrm : ∀ r ∈ rs, r ≠ m := fun r hr2 => by
        obtain ⟨i, hi, e⟩ := List.mem_iff_getElem.mp hr2
        have hi2 : i < T.length := by rw [← hr1.len]; exact hi
        have h1 := hr1.at_ i r T[i] (by rw [List.getElem?_eq_getElem hi, e]) (List.getElem?_eq_getElem hi2)
        exact ne_of h1 hm (by intro z; cases z)
      have hr3 : RowsAt H3 rs T := (hr1.same sA).but b3 nrm
      walk_at "rd"
      refine ⟨⟨_, SqL.of ht3⟩, fun D hD => ?_⟩
      refine lc_listN (xs := rs.map V.ref) (fun i H4 => ∃ qs : List Addr, H4 D = some (.lst (qs.map V.ref)) ∧ RowsAt H4 qs (T.take i) ∧ Same H3 H4 ∧ ∀ q ∈ qs, H3 q = none ∧ q ≠ D) ?_ ?_ ?_ ?_
      · exact ⟨[], upd_same, ⟨rfl, fun i a r h _ => nomatch h⟩, same_upd hD, fun _ h => nomatch h⟩
      · rintro i H4 _ ⟨qs, _, _, s4, _⟩
        exact SqL.of (s4 _ _ ht3)
      · rintro i x H4 N2 hx ⟨qs, h4, q4, s4, n4⟩ hN2
        rw [List.getElem?_map] at hx
        obtain ⟨ra, hra, rfl⟩ := Option.map_eq_some_iff.mp hx
        have hi : i < T.length := by rw [← hr1.len]; exact (List.getElem?_eq_some_iff.mp hra).1
        have hTi : T[i]? = some T[i] := List.getElem?_eq_getElem hi
        have hrow := s4 _ _ (hr3.at_ i ra T[i] hra hTi)
        have hql : qs.length ≤ 400 := by
          have := q4.len
          rw [List.length_take] at this
          omega
        walk_at "rd"
        refine ⟨_, .inl (SqL.of hrow), fun L hL => ⟨_, (same_upd hL) _ _ h4, smallt (by rw [List.length_map]; omega), hN2 _ ⟨qs ++ [L], ?_, ?_, ?_, ?_⟩⟩⟩
        · rw [upd_same, List.map_append]
          rfl
        · have hLD : L ≠ D := (ne_of_none h4 hL).symm
          rw [List.take_add_one, hTi]
          refine RowsAt.but (RowsAt.snoc (q4.same (same_upd hL)) upd_same) But.upd fun q hq => ?_
          rcases List.mem_append.mp hq with hq | hq
          · exact (n4 q hq).2
          · rw [List.mem_singleton.mp hq]
            exact hLD
        · exact Dw.Same.new (s4.trans (same_upd hL)) hD
        · intro q hq
          rcases List.mem_append.mp hq with hq | hq
          · exact n4 q hq
          · rw [List.mem_singleton.mp hq]
            exact ⟨s4.free hL, (ne_of_none h4 hL).symm⟩
      · rintro H4 ⟨qs, h4, q4, s4, n4⟩
        rw [List.length_map, hr1.len, List.take_length] at q4
        have hm4 := s4 _ _ hm3
        refine flds_of c_M n_table hm4 (by rw [show (putF "width" (nv w) []).length = 1 from rfl]; decide) ?_
        obtain ⟨H5, hH5⟩ : ∃ H5, H5 = upd H4 m (.ins CM dx (putF "table" (.ref D) (putF "width" (nv w) []))) := ⟨_, rfl⟩
        have e5 : upd H4 m (.ins CM dx (putF (Str.ofString "table") (.ref D) (putF "width" (nv w) []))) = H5 := hH5.symm
        rw [e5]
        have hm5 : H5 m = some (.ins CM dx (putF "table" (.ref D) (putF "width" (nv w) []))) := by rw [hH5, upd_same]
        have b5 : But m H4 H5 := hH5 ▸ But.upd
        have nDm : D ≠ m := (ne_of_none hm3 hD).symm
        have nqm : ∀ q ∈ qs, q ≠ m := fun q hq => (ne_of_none hm3 (n4 q hq).1).symm
        have ha5 := b5 _ _ nam (s4 _ _ (b3 _ _ nam (sA _ _ ha)))
        walk_at "rd"
        refine ⟨_, .inl (SqL.of ha5), fun L hL => ?_⟩
        have hm6 := (same_upd (o := .lst (acc.map V.bl)) hL) _ _ hm5
        refine flds_of c_M n_accepting hm6 (by
          have : (putF "table" (.ref D) (putF "width" (nv w) [])).length = 2 := by
            show (if (("width" : Str) = "table") then _ else _ : List (Str × V)).length = 2
            rw [if_neg kwt]
            rfl
          rw [this]
          decide) ?_
        have nLm : L ≠ m := (ne_of_none hm5 hL).symm
        have b34 : But m H2 H4 := b3.trans (But.of s4)
        have bAll : But m H (upd (upd H5 L (.lst (acc.map V.bl))) m (.ins CM dx (mflds w D L))) := ((((But.of sA).trans b34).trans b5).trans (But.of (same_upd hL))).trans But.upd
        have free : ∀ q, q ≠ m → H3 q = none → H q = none := fun q nq hq => by
          cases e : H q with
          | none => rfl
          | some o =>
            have := b3 _ _ nq (sA _ _ e)
            rw [hq] at this
            cases this
        have frL : H L = none := by
          cases e : H L with
          | none => rfl
          | some o =>
            have := b5 _ _ nLm (b34 _ _ nLm (sA _ _ e))
            rw [hL] at this
            cases this
        have bE : But m H4 (upd (upd H5 L (.lst (acc.map V.bl))) m (.ins CM dx (mflds w D L))) := (b5.trans (But.of (same_upd hL))).trans But.upd
        refine ok _ bAll ⟨dx, D, L, qs, upd_same, bE _ _ nDm h4, q4.but bE nqm, ?_, free D nDm hD, frL, fun q hq => free q (nqm q hq) (n4 q hq).1⟩
        rw [upd_ne nLm, upd_same]
def sp_behind (K : PySem.W.Frag) (C : Addr) : Sp := fun vs H Q _ => ∃ (m a : Addr) (w : Nat) (T : List (List Int)) (acc : List Bool) (ls : List Nat), vs = [.ref m, .ref a] ∧ MachAt C H m w T acc ∧ MOk w T acc ∧ SqL K H a (ls.map nv) ∧ (∀ l ∈ ls, l < 2 ^ w) ∧ Q (nv (runT T 0 ls)) H
theorem m_Machine_behind {f : Addr} {fd : FuncData} {CM : Addr} (c_M : Cls K CM) (me : Meth K CM "behind" f) (F : C8.Fun K "behind" "Machine.behind" s_Machine_behind f fd) (b : Binds K fd ["self", "word"] []) (n_width : NoAttr K CM "width") (n_table : NoAttr K CM "table") (n_accepting : NoAttr K CM "accepting") : C8.Met P w K mg base 1 CM "behind" (sp_behind K CM) [] := by
  refine C8.met0 c_M me F b sc_Machine_behind (fun vs H Q E h => ?_) (fun cdv A outer s H vs Q E hr h => ?_)
  · obtain ⟨_, _, _, _, _, _, rfl, _⟩ := h
    rfl
  · obtain ⟨m, a, w, T, acc, ls, rfl, hm, hk, ha, hl, ok⟩ := h
    refine ⟨_, (pss_cons (ps_set (i := 2) sc_Machine_behind.nd rfl (by first | exact Or.inl rfl | exact Or.inr rfl) pe_int) (pss_cons (ps_for PassesOwn.never rfl (piL K (pv 1)) (pg_name (i := 3) sc_Machine_behind.nd rfl (by first | exact Or.inl rfl | exact Or.inr rfl)) (pss_one (ps_set (i := 2) sc_Machine_behind.nd rfl (by first | exact Or.inl rfl | exact Or.inr rfl) (pe_ix (ixL K) (pe_ix (ixL K) (pe_fd K (pv 0) (by rfl)) (pv 2) (fun _ _ => rfl)) (pv 3) (fun _ _ => rfl))))) (pss_one (ps_ret (pv 2))))), ?_⟩
    walk_at "rd"
    obtain ⟨dx, t, b, rs, h1, h2, h3, h4⟩ := hm.ex
    refine ⟨⟨_, ha⟩, for_listN (xs := ls.map nv) (fun i σ H2 => (∃ o, σ = [some (.ref m), some (.ref a), some (nv (runT T 0 (ls.take i))), o]) ∧ H2 = H) ?_ ?_ ?_ ?_⟩
    · exact ⟨⟨_, rfl⟩, rfl⟩
    · rintro i σ H2 _ ⟨_, rfl⟩
      exact ha
    · rintro i x σ H2 N hx ⟨⟨o, rfl⟩, rfl⟩ hN
      rw [List.getElem?_map] at hx
      obtain ⟨l, hli, rfl⟩ := Option.map_eq_some_iff.mp hx
      have hlt := hl l (List.mem_of_getElem? hli)
      have hs := runT_lt hk.good (ls.take i) 0 (fun x hx => hl x (List.mem_of_mem_take hx)) hk.pos
      obtain ⟨r, er, e0, lt0⟩ := goodT_at hk.good hs hlt
      obtain ⟨ra, hra, hrow⟩ := h3.get er
      walk_at "rd"
      refine fld_of c_M n_table h1 (mf_t _ _ _) ?_
      refine ⟨t, rfl, _, SqL.of h2, _, at_map hra, ra, rfl, _, SqL.of hrow, _, at_map e0, hN _ _ ⟨⟨some (nv l), ?_⟩, rfl⟩⟩
      rw [List.take_add_one, hli]
      show _ = [_, _, some (nv (runT T 0 (ls.take i ++ [l]))), _]
      rw [runT_snoc]
    · rintro σ H2 ⟨⟨o, rfl⟩, rfl⟩
      rw [List.length_map, List.take_length]
      walk_at "rd"
      exact ok
def sp_accepts (K : PySem.W.Frag) (C : Addr) : Sp := fun vs H Q _ => ∃ (m a : Addr) (w : Nat) (T : List (List Int)) (acc : List Bool) (ls : List Nat), vs = [.ref m, .ref a] ∧ MachAt C H m w T acc ∧ MOk w T acc ∧ SqL K H a (ls.map nv) ∧ (∀ l ∈ ls, l < 2 ^ w) ∧ Q (.bl (acc.getD (runT T 0 ls) false)) H
theorem m_Machine_accepts {f : Addr} {fd : FuncData} {CM : Addr} (c_M : Cls K CM) (me : Meth K CM "accepts" f) (F : C8.Fun K "accepts" "Machine.accepts" s_Machine_accepts f fd) (b : Binds K fd ["self", "word"] []) (n_width : NoAttr K CM "width") (n_table : NoAttr K CM "table") (n_accepting : NoAttr K CM "accepting") (m_Machine_behind : C8.Met P w K mg base 1 CM "behind" (sp_behind K CM) []) : C8.Met P w K mg base 2 CM "accepts" (sp_accepts K CM) [] := by
  refine C8.met0 c_M me F b sc_Machine_accepts (fun vs H Q E h => ?_) (fun cdv A outer s H vs Q E hr h => ?_)
  · obtain ⟨_, _, _, _, _, _, rfl, _⟩ := h
    rfl
  · obtain ⟨m, a, w, T, acc, ls, rfl, hm, hk, ha, hl, ok⟩ := h
    refine ⟨_, (pss_one (ps_ret (pe_ix (ixL K) (pe_fd K (pv 0) (by rfl)) (C8.pe_mt m_Machine_behind hr (by decide) (pv 0) (pa_cons (pv 1) pa_nil)) (fun _ _ => rfl)))), ?_⟩
    walk_at "rd"
    obtain ⟨dx, t, b, rs, h1, h2, h3, h4⟩ := hm.ex
    refine fld_of c_M n_accepting h1 (mf_a _ _ _) ?_
    have hs := runT_lt hk.good ls 0 hl hk.pos
    have hsa : runT T 0 ls < acc.length := by rw [hk.al]; exact hs
    have e := List.getElem?_eq_getElem hsa
    rw [List.getD_eq_getElem?_getD, e] at ok
    exact ⟨_, _, h1, mf_no _ _ _ (by decide +kernel) (by decide +kernel) (by decide +kernel), m, a, w, T, acc, ls, rfl, hm, hk, ha, hl, b, rfl, _, _, rfl, SqL.of h4, _, at_map e, ok⟩
def sp_takes (K : PySem.W.Frag) (C : Addr) : Sp := fun vs H Q _ => ∃ (m a : Addr) (w : Nat) (T : List (List Int)) (acc : List Bool) (ns : List Nat), vs = [.ref m, .ref a] ∧ MachAt C H m w T acc ∧ MOk w T acc ∧ SqT K H a (ns.map nv) ∧ ns.length = w ∧ (∀ n ∈ ns, n < 2 ^ 1000) ∧ ∀ H', Same H H' → Q (.bl (acc.getD (runT T 0 (wd ns)) false)) H'
theorem m_Machine_takes {f : Addr} {fd : FuncData} {CM : Addr} (c_M : Cls K CM) (me : Meth K CM "takes" f) (F : C8.Fun K "takes" "Machine.takes" s_Machine_takes f fd) (b : Binds K fd ["self", "numbers"] []) (n_width : NoAttr K CM "width") (n_table : NoAttr K CM "table") (n_accepting : NoAttr K CM "accepting") (m_Machine_accepts : C8.Met P w K mg base 2 CM "accepts" (sp_accepts K CM) []) (c_word_of : C8.Cal P w K mg base 2 "word_of" (sp_word_of K) []) (z_len : mg "len" = none) : C8.Met P w K mg base 3 CM "takes" (sp_takes K CM) [] := by
  refine C8.met0 c_M me F b sc_Machine_takes (fun vs H Q E h => ?_) (fun cdv A outer s H vs Q E hr h => ?_)
  · obtain ⟨_, _, _, _, _, _, rfl, _⟩ := h
    rfl
  · obtain ⟨m, a, w, T, acc, ns, rfl, hm, hk, ha, hw, hn, ok⟩ := h
    refine ⟨_, (pss_cons (ps_if (pt_cmpR (op_ne) (pe_callB (lenS K) (by rfl) z_len PySem.boot_len (pa_cons (pv 1) pa_nil)) (pe_fd K (pv 0) (by rfl)) (nomark _)) (pss_one ps_never) pss_nil) (pss_one (ps_ret (C8.pe_mt m_Machine_accepts hr (by decide) (pv 0) (pa_cons (C8.pe_c c_word_of hr (by decide) (by rfl) (pa_cons (pv 1) pa_nil)) pa_nil))))), ?_⟩
    walk_at "rd"
    obtain ⟨dx, t, b, rs, h1, h2, h3, h4⟩ := hm.ex
    have hlen : ((ns.map nv).length : Int) = (w : Int) := by rw [List.length_map, hw]
    have h6 := hk.w6
    refine ⟨_, .inr ha, fld_of c_M n_width h1 (mf_w _ _ _) ⟨rfl, ?_⟩⟩
    rw [hlen, if_pos rfl]
    refine ⟨_, _, h1, mf_no _ _ _ (by decide +kernel) (by decide +kernel) (by decide +kernel), a, ns, rfl, ha, by omega, hn, fun p H1 s1 hp0 hp => ?_⟩
    exact ⟨m, p, w, T, acc, wd ns, rfl, hm.same s1, hk, SqL.of hp, fun l hl => by have := wd_lt hl; rwa [hw] at this, ok _ s1⟩
def sp_wide (K : PySem.W.Frag) : Sp := fun vs H Q _ => ∃ (q : Addr) (ns : List Int) (k : Int), vs = [.ref q, .int k] ∧ SqL K H q (ns.map V.int) ∧ 0 ≤ k ∧ ∀ r : Int, 0 ≤ r → Q (.int r) H
theorem c__law_wide {f : Addr} {fd : FuncData} (D : C8.Def K mg "_law_wide" s__law_wide f fd) (b : Binds K fd ["script", "k"] []) (z_len : mg "len" = none) (z_abs : mg "abs" = none) (z_int : mg "int" = none) : C8.Cal P w K mg base 1 "_law_wide" (sp_wide K) [] := by
  refine C8.cal0 D b .nil sc__law_wide (fun vs H Q E h => ?_) (fun cdv A outer s H vs Q E hr h => ?_)
  · obtain ⟨_, _, _, rfl, _⟩ := h
    rfl
  · obtain ⟨q, ns, k, rfl, hS, hk, ok⟩ := h
    refine ⟨_, (pss_cons (ps_set (i := 2) sc__law_wide.nd rfl (by first | exact Or.inl rfl | exact Or.inr rfl) pe_int) (C8.pss_cut (ps_if (pt_cmpR (op_lt) (pv 1) (pe_callB (lenS K) (by rfl) z_len PySem.boot_len (pa_cons (pv 0) pa_nil)) (nomark _)) (pss_one (ps_set (i := 2) sc__law_wide.nd rfl (by first | exact Or.inl rfl | exact Or.inr rfl) (pe_callB call_abs (by rfl) z_abs (by decide +kernel) (pa_cons (pe_ix (ixL K) (pv 0) (pv 1) (fun _ _ => rfl)) pa_nil)))) pss_nil) (pss_cons (ps_if (pt_cmpR (op_ge) (pv 2) pe_int (nomark _)) (pss_one (ps_ret (pv 2))) pss_nil) (pss_cons (ps_set (i := 3) sc__law_wide.nd rfl (by first | exact Or.inl rfl | exact Or.inr rfl) (pe_op op_mod (pe_callTy call_int1 (by rfl) z_int (by decide +kernel) (pa_cons (pe_op op_add (pe_op op_mul (pe_op op_add (pv 2) pe_int) pe_int) (pe_op op_mul (pe_op op_add (pv 1) pe_int) pe_int)) pa_nil)) pe_int)) (pss_one (ps_ret (pe_op op_mod (pe_callTy call_int1 (by rfl) z_int (by decide +kernel) (pa_cons (pe_op op_add (pe_op op_mul (pv 3) pe_int) (pe_op op_fdiv (pv 3) pe_int)) pa_nil)) pe_int))))))), ?_⟩
    walk_at "rd"
    obtain ⟨M, hM⟩ : ∃ M : L2.St → Hp → Prop, M = fun σ' H' => ∃ c : Int, 0 ≤ c ∧ σ' = [some (.ref q), some (.int k), some (.int c), none] ∧ H' = H := ⟨_, rfl⟩
    refine ⟨M, ?_, fun σ' H' hm => ?_⟩
    · walk_at "rd"
      refine ⟨_, .inl hS, ite2 (fun h1 => ?_) (fun h1 => ?_)⟩
      · rw [List.length_map] at h1
        refine ⟨_, hS, .int (ns.getD k.toNat 0), at_ints hk h1, ns.getD k.toNat 0, rfl, ?_⟩
        rw [hM]
        exact ⟨_, by split <;> omega, rfl, rfl⟩
      · rw [hM]
        exact ⟨0, Int.le_refl 0, rfl, rfl⟩
    · rw [hM] at hm
      obtain ⟨c, hc, rfl, rfl⟩ := hm
      walk_at "rd"
      refine ite2 (fun _ => ok c hc) (fun _ => ⟨.inr ⟨by decide, by decide⟩, .inr ⟨by decide, by decide⟩, by decide, .inr ⟨by decide, by decide⟩, ⟨by decide, by decide⟩, by decide, ok _ ?_⟩)
      exact Int.emod_nonneg _ (by decide)

def sp_take : Sp := fun vs H Q _ => ∃ (p q : Addr) (ns : List Int) (m : Int), vs = [.ref p, .int m] ∧ Pool H p q ns ∧ 0 < m ∧ m < 1073741824 ∧ ∀ (r : Int) H', 0 ≤ r → r < m → But p H H' → Pool H' p q ns → Q (.int r) H'
theorem c__law_take {f : Addr} {fd : FuncData} (D : C8.Def K mg "_law_take" s__law_take f fd) (b : Binds K fd ["pool", "most"] []) (z_int : mg "int" = none) (c__law_wide : C8.Cal P w K mg base 1 "_law_wide" (sp_wide K) []) : C8.Cal P w K mg base 2 "_law_take" sp_take [] := by
  refine C8.cal0 D b .nil sc__law_take (fun vs H Q E h => ?_) (fun cdv A outer s H vs Q E hr h => ?_)
  · obtain ⟨_, _, _, _, rfl, _⟩ := h
    rfl
  · obtain ⟨p, q, ns, m, rfl, ⟨hne, hq, a, k, hp, ha, hk⟩, hm0, hm1, ok⟩ := h
    refine ⟨_, (C8.pss_cut (ps_if (pt_cmpR (op_lt) (pe_ix (ixL K) (pv 0) pe_int (fun _ _ => rfl)) pe_int (nomark _)) (pss_cons (ps_asg (pe_op op_add (pe_ix (ixL K) (pv 0) pe_int (fun _ _ => rfl)) pe_int) (pg_sub (pv 0) pe_int set_list)) (pss_one (ps_asg (C8.pe_c c__law_wide hr (by decide) (by rfl) (pa_cons (pe_ix (ixL K) (pv 0) pe_int (fun _ _ => rfl)) (pa_cons (pe_ix (ixL K) (pv 0) pe_int (fun _ _ => rfl)) pa_nil))) (pg_sub (pv 0) pe_int set_list)))) pss_nil) (pss_cons (ps_set (i := 2) sc__law_take.nd rfl (by first | exact Or.inl rfl | exact Or.inr rfl) (pe_op op_mod (pe_callTy call_int1 (by rfl) z_int (by decide +kernel) (pa_cons (pe_ix (ixL K) (pv 0) pe_int (fun _ _ => rfl)) pa_nil)) (pv 1))) (pss_cons (ps_asg (pe_op op_fdiv (pe_ix (ixL K) (pv 0) pe_int (fun _ _ => rfl)) (pv 1)) (pg_sub (pv 0) pe_int set_list)) (pss_one (ps_ret (pv 2)))))), ?_⟩
    walk_at "rd"
    obtain ⟨M, hM⟩ : ∃ M : L2.St → Hp → Prop, M = fun σ' H' => But p H H' ∧ (∃ a k : Int, H' p = some (.lst [.int a, .ref q, .int k]) ∧ 0 ≤ a ∧ -1 ≤ k) ∧ σ' = [some (.ref p), some (.int m), none] := ⟨_, rfl⟩
    refine ⟨M, ?_, fun σ' H' hm => ?_⟩
    · walk_at "rd"
      refine ⟨_, SqL.of hp, _, rfl, ?_⟩
      walk_at "rd"
      refine ite2 (fun h1 => ?_) (fun h1 => ?_)
      · refine ⟨_, SqL.of hp, _, rfl, ?_⟩
        walk_at "rd"
        refine ⟨_, _, _, _, rfl, rfl, hp, rfl, ?_⟩
        refine ⟨_, SqL.of upd_same, _, rfl, _, SqL.of upd_same, _, rfl, ?_⟩
        have e2 : (upd H p (.lst ([V.int a, V.ref q, V.int k].set 2 (V.int (k + 1))))) q = some (.lst (ns.map V.int)) := by
          rw [upd_ne hne.symm]
          exact hq
        refine ⟨q, ns, k + 1, rfl, SqL.of e2, by omega, fun r hr0 => ?_⟩
        refine ⟨_, _, _, _, rfl, rfl, upd_same, rfl, ?_⟩
        rw [hM]
        exact ⟨But.upd.trans But.upd, ⟨r, k + 1, upd_same, hr0, by omega⟩, rfl⟩
      · rw [hM]
        exact ⟨But.refl _ _, ⟨a, k, hp, ha, hk⟩, rfl⟩
    · rw [hM] at hm
      obtain ⟨hB, ⟨a1, k1, hp1, ha1, hk1⟩, rfl⟩ := hm
      walk_at "rd"
      refine ⟨_, SqL.of hp1, _, rfl, ?_⟩
      walk_at "rd"
      refine ⟨hm0, _, SqL.of hp1, _, rfl, ?_⟩
      walk_at "rd"
      refine ⟨⟨hm0, hm1⟩, _, _, _, _, rfl, rfl, hp1, rfl, ?_⟩
      refine ok _ _ (Int.emod_nonneg _ (by omega)) (Int.emod_lt_of_pos _ hm0) (hB.trans But.upd) ⟨hne, ?_, a1 / m, k1, upd_same, Int.ediv_nonneg ha1 (by omega), hk1⟩
      rw [upd_ne hne.symm]
      exact hB _ _ hne.symm hq

def sp_pool (K : PySem.W.Frag) : Sp := fun vs H Q _ => ∃ (a : Addr) (ns : List Int), vs = [.ref a] ∧ SqL K H a (ns.map V.int) ∧ ∀ p q H', Same H H' → H p = none → H q = none → Pool H' p q ns → Q (.ref p) H'
theorem c__law_pool {f : Addr} {fd : FuncData} (D : C8.Def K mg "_law_pool" s__law_pool f fd) (b : Binds K fd ["script"] []) (z_list : mg "list" = none) : C8.Cal P w K mg base 1 "_law_pool" (sp_pool K) [] := by
  refine C8.cal0 D b .nil sc__law_pool (fun vs H Q E h => ?_) (fun cdv A outer s H vs Q E hr h => ?_)
  · obtain ⟨_, _, rfl, _⟩ := h
    rfl
  · obtain ⟨a, ns, rfl, hS, ok⟩ := h
    refine ⟨_, (pss_one (ps_ret (pe_lst (pa_cons pe_int (pa_cons (pe_callTy (listOf K) (by rfl) z_list (by decide +kernel) (pa_cons (pv 0) pa_nil)) (pa_cons (pe_un un_neg pe_int) pa_nil)))))), ?_⟩
    walk_at "rd"
    refine ⟨_, .inl hS, fun q hq => ⟨by show 3 ≤ sizeLine; decide, fun p hp => ?_⟩⟩
    have hne : p ≠ q := fun e => by
      subst e
      rw [upd_same] at hp
      cases hp
    have hp0 : H p = none := by
      rw [upd_ne hne] at hp
      exact hp
    refine ok p q _ ((same_upd hq).trans (same_upd hp)) hp0 hq ⟨hne, ?_, 0, -1, upd_same, by decide, by decide⟩
    rw [upd_ne hne.symm, upd_same]
def sp_number : Sp := fun vs H Q _ => ∃ (p q : Addr) (ns : List Int), vs = [.ref p] ∧ Pool H p q ns ∧ ∀ (n : Nat) H', n < 2 ^ 33 → But p H H' → Pool H' p q ns → Q (nv n) H'
theorem c__law_number {f : Addr} {fd : FuncData} (D : C8.Def K mg "_law_number" s__law_number f fd) (b : Binds K fd ["pool"] []) (c__law_take : C8.Cal P w K mg base 2 "_law_take" sp_take []) : C8.Cal P w K mg base 3 "_law_number" sp_number [] := by
  refine C8.cal0 D b .nil sc__law_number (fun vs H Q E h => ?_) (fun cdv A outer s H vs Q E hr h => ?_)
  · obtain ⟨_, _, _, rfl, _⟩ := h
    rfl
  · obtain ⟨p, q, ns, rfl, hP, ok⟩ := h
    refine ⟨_, (pss_cons (ps_set (i := 1) sc__law_number.nd rfl (by first | exact Or.inl rfl | exact Or.inr rfl) (C8.pe_c c__law_take hr (by decide) (by rfl) (pa_cons (pv 0) (pa_cons pe_int pa_nil)))) (pss_cons (ps_if (pt_cmpR (op_lt) (pv 1) pe_int (nomark _)) (pss_one (ps_ret (C8.pe_c c__law_take hr (by decide) (by rfl) (pa_cons (pv 0) (pa_cons pe_int pa_nil))))) pss_nil) (pss_cons (ps_if (pt_cmpR (op_eq) (pv 1) pe_int (nomark _)) (pss_one (ps_ret (C8.pe_c c__law_take hr (by decide) (by rfl) (pa_cons (pv 0) (pa_cons pe_int pa_nil))))) pss_nil) (pss_one (ps_ret (pe_op op_add (C8.pe_c c__law_take hr (by decide) (by rfl) (pa_cons (pv 0) (pa_cons pe_int pa_nil))) (pe_op op_mul (C8.pe_c c__law_take hr (by decide) (by rfl) (pa_cons (pv 0) (pa_cons pe_int pa_nil))) (pe_ix (ixL K) (pe_lst (pa_cons pe_int (pa_cons pe_int pa_nil))) (pe_op op_sub (pv 1) pe_int) (fun _ _ => rfl))))))))), ?_⟩
    walk_at "rd"
    have nat : ∀ r : Int, 0 ≤ r → ∃ n : Nat, r = (n : Int) := fun r h => ⟨r.toNat, by omega⟩
    refine ⟨p, q, ns, 6, rfl, hP, by decide, by decide, fun r H1 r0 r1 hB1 hP1 => ?_⟩
    refine ⟨r, rfl, ?_⟩
    by_cases h1 : r < 3
    · rw [if_pos h1]
      refine ⟨p, q, ns, 9, rfl, hP1, by decide, by decide, fun z H2 z0 z1 hB2 hP2 => ?_⟩
      obtain ⟨n, rfl⟩ := nat z z0
      exact ok n _ (by omega) (hB1.trans hB2) hP2
    rw [if_neg h1]
    refine ⟨rfl, ?_⟩
    by_cases h2 : V.int r = V.int 3
    · rw [if_pos h2]
      refine ⟨p, q, ns, 1000, rfl, hP1, by decide, by decide, fun z H2 z0 z1 hB2 hP2 => ?_⟩
      obtain ⟨n, rfl⟩ := nat z z0
      exact ok n _ (by omega) (hB1.trans hB2) hP2
    · rw [if_neg h2]
      refine ⟨p, q, ns, 4, rfl, hP1, by decide, by decide, fun z H2 z0 z1 hB2 hP2 => ⟨p, q, ns, 1048576, rfl, hP2, by decide, by decide, fun y H3 y0 y1 hB3 hP3 => ?_⟩⟩
      obtain ⟨n, rfl⟩ := nat z z0
      obtain ⟨k, rfl⟩ := nat y y0
      refine ⟨by decide, fun L hL => ?_⟩
      have hLp : L ≠ p := hP3.ne hL
      have fin : ∀ c : Nat, c ≤ 4096 → Q (.int ((n : Int) + (k : Int) * (c : Int))) (L2.upd H3 L (.lst [.int 1, .int 4096])) := fun c hc => by
        have e : ((n : Int) + (k : Int) * (c : Int)) = ((n + k * c : Nat) : Int) := by
          rw [Int.natCast_add, Int.natCast_mul]
        rw [e]
        have : k * c ≤ 1048575 * 4096 := Nat.mul_le_mul (by omega) hc
        exact ok _ _ (by omega) (((hB1.trans hB2).trans hB3).trans (But.of (same_upd hL))) (hP3.same (same_upd hL))
      have h45 : r = 4 ∨ r = 5 := by
        have h2' : r ≠ 3 := fun e => h2 (by rw [e])
        omega
      rcases h45 with rfl | rfl
      · exact ⟨4, rfl, _, SqL.of upd_same, .int 1, atI_nat (j := 0) rfl, _, rfl, 1, rfl, .inr ⟨by decide, by decide⟩, _, rfl, fin 1 (by decide)⟩
      · exact ⟨5, rfl, _, SqL.of upd_same, .int 4096, atI_nat (j := 1) rfl, _, rfl, 4096, rfl, .inr ⟨by decide, by decide⟩, _, rfl, fin 4096 (by decide)⟩
def sp_told_states : Sp := fun vs H Q _ => ∃ (p q : Addr) (ns : List Int), vs = [.ref p] ∧ Pool H p q ns ∧ ∀ (r o t : Addr) (rs : List Addr) (T : List (List Int)) (outs : List Int) H', But p H H' → Pool H' p q ns → TOk T outs → T.length ≤ 5 → H r = none → H o = none → H t = none → r ≠ o → r ≠ t → H' r = some (.lst [.ref o, .ref t]) → H' o = some (.lst (outs.map V.int)) → H' t = some (.lst (rs.map V.ref)) → RowsAt H' rs T → (∀ x ∈ rs, H x = none) → Q (.ref r) H'
theorem c__law_told_states {f : Addr} {fd : FuncData} (D : C8.Def K mg "_law_told_states" s__law_told_states f fd) (b : Binds K fd ["pool"] []) (c__law_take : C8.Cal P w K mg base 2 "_law_take" sp_take []) (z_range : mg "range" = none) (z_min : mg "min" = none) : C8.Cal P w K mg base 3 "_law_told_states" sp_told_states [] := by
  refine C8.cal0 D b .nil sc__law_told_states (fun vs H Q E h => ?_) (fun cdv A outer s H vs Q E hr h => ?_)
  · obtain ⟨_, _, _, rfl, _⟩ := h
    rfl
  · obtain ⟨p, q, ns, rfl, hP, ok⟩ := h
    refine ⟨_, (pss_cons (ps_set (i := 1) sc__law_told_states.nd rfl (by first | exact Or.inl rfl | exact Or.inr rfl) (pe_op op_add pe_int (C8.pe_c c__law_take hr (by decide) (by rfl) (pa_cons (pv 0) (pa_cons pe_int pa_nil))))) (pss_cons (ps_setLc (i := 3) (own := [("k", 2)]) (g := (gName 2)) (tt := tYes) rfl sc__law_told_states.nd rfl rfl (sw_true rfl rfl rfl (by decide +kernel)) (pi_range1 (by rfl) z_range (pa_cons (pv 1) pa_nil)) (blkOk_by (N := N__law_told_states) (sc := C8.fnScope s__law_told_states) (by decide +kernel)) (fun _ _ _ _ _ => (pg_name (i := 2) sc__law_told_states.nd rfl (by first | exact Or.inl rfl | exact Or.inr rfl))) (fun _ _ _ _ _ => pts_nil) (fun _ _ _ _ _ => (pe_lst (pa_cons (C8.pe_c c__law_take hr (by decide) (by rfl) (pa_cons (pv 0) (pa_cons (pv 1) pa_nil))) (pa_cons (C8.pe_c c__law_take hr (by decide) (by rfl) (pa_cons (pv 0) (pa_cons (pv 1) pa_nil))) pa_nil))))) (pss_cons (ps_set (i := 4) sc__law_told_states.nd rfl (by first | exact Or.inl rfl | exact Or.inr rfl) (pe_lst pa_nil)) (pss_cons (ps_for PassesOwn.never rfl (pi_range1 (by rfl) z_range (pa_cons (pv 1) pa_nil)) (pg_name (i := 5) sc__law_told_states.nd rfl (by first | exact Or.inl rfl | exact Or.inr rfl)) (pss_cons (ps_set (i := 6) sc__law_told_states.nd rfl (by first | exact Or.inl rfl | exact Or.inr rfl) (pv 5)) (pss_cons (ps_for PassesOwn.never rfl (pi_range1 (by rfl) z_range (pa_cons (pv 1) pa_nil)) (pg_name (i := 2) sc__law_told_states.nd rfl (by first | exact Or.inl rfl | exact Or.inr rfl)) (pss_one (ps_set (i := 6) sc__law_told_states.nd rfl (by first | exact Or.inl rfl | exact Or.inr rfl) (pe_ix (ixL K) (pe_ix (ixL K) (pv 3) (pv 6) (fun _ _ => rfl)) pe_int (fun _ _ => rfl))))) (pss_cons (ps_set (i := 7) sc__law_told_states.nd rfl (by first | exact Or.inl rfl | exact Or.inr rfl) (pe_lst (pa_cons (pv 6) pa_nil))) (pss_cons (ps_for PassesOwn.never rfl (pi_range1 (by rfl) z_range (pa_cons (pv 1) pa_nil)) (pg_name (i := 2) sc__law_told_states.nd rfl (by first | exact Or.inl rfl | exact Or.inr rfl)) (pss_cons (ps_set (i := 6) sc__law_told_states.nd rfl (by first | exact Or.inl rfl | exact Or.inr rfl) (pe_ix (ixL K) (pe_ix (ixL K) (pv 3) (pv 6) (fun _ _ => rfl)) pe_int (fun _ _ => rfl))) (pss_one (ps_expr (pe_bm PySem.F.plainAttrs_list PySem.F.slot_list_append PySem.F.type_list_append mt_append (pv 7) (pa_cons (pv 6) pa_nil)))))) (pss_one (ps_expr (pe_bm PySem.F.plainAttrs_list PySem.F.slot_list_append PySem.F.type_list_append mt_append (pv 4) (pa_cons (pe_op op_mod (pe_op op_mul (pe_callB (minK K) (by rfl) z_min (by decide +kernel) (pa_cons (pv 7) pa_nil)) pe_int) pe_int) pa_nil))))))))) (pss_one (ps_ret (pe_lst (pa_cons (pv 4) (pa_cons (pv 3) pa_nil))))))))), ?_⟩
    walk_at "rd"
    refine ⟨p, q, ns, 5, rfl, hP, by decide, by decide, fun z H1 z0 z1 hB1 hP1 => ?_⟩
    obtain ⟨n, hn, hn0, hn5⟩ : ∃ n : Nat, (1 : Int) + z = (n : Int) ∧ 0 < n ∧ n ≤ 5 := ⟨(1 + z).toNat, by omega, by omega, by omega⟩
    refine ⟨z, rfl, ?_⟩
    rw [hn]
    refine ⟨by omega, by omega, fun D hD => ?_⟩
    have hDp : D ≠ p := hP1.ne hD
    have hDq : D ≠ q := hP1.neq hD
    refine lc_rangeN (fun i H2 => ∃ (qs : List Addr) (T : List (List Int)), T.length = i ∧ H2 D = some (.lst (qs.map V.ref)) ∧ RowsAt H2 qs T ∧ (∀ r ∈ T, goodRow n 2 r = true) ∧ But p H1 H2 ∧ Pool H2 p q ns ∧ ∀ x ∈ qs, H1 x = none ∧ x ≠ D) ?_ ?_ ?_
    · exact ⟨[], [], rfl, upd_same, ⟨rfl, fun i a r h _ => nomatch h⟩, (fun _ h => nomatch h), But.of (same_upd hD), hP1.same (same_upd hD), fun _ h => nomatch h⟩
    · rintro i H2 N hi ⟨qs, T, hl, h2, r2, g2, hB2, hP2, n2⟩ hN
      walk_at "rd"
      refine ⟨p, q, ns, n, rfl, hP2, by omega, by omega, fun x H3 x0 x1 hB3 hP3 => ⟨p, q, ns, n, rfl, hP3, by omega, by omega, fun y H4 y0 y1 hB4 hP4 => ⟨by decide, fun L hL => ?_⟩⟩⟩
      have hB24 : But p H2 H4 := hB3.trans hB4
      have h4 := hB24 _ _ hDp h2
      have hLD : L ≠ D := (ne_of_none h4 hL).symm
      have hLp : L ≠ p := hP4.ne hL
      have qp : ∀ x ∈ qs, x ≠ p := fun x hx e => by
        obtain ⟨r, _, e2⟩ := r2.some hx
        obtain ⟨_, _, a, k, hp, _⟩ := hP2
        rw [e, hp] at e2
        have := HO.lst.inj (Option.some.inj e2)
        cases r with
        | nil => cases this
        | cons b r =>
          cases r with
          | nil => cases this
          | cons c r => cases this
      have r4 := (r2.but hB24 qp).same (same_upd (o := .lst [.int x, .int y]) hL)
      refine ⟨_, (same_upd hL) _ _ h4, smallt (by rw [List.length_map, r2.len]; omega), hN _ ⟨qs ++ [L], T ++ [[x, y]], by rw [List.length_append, hl]; rfl, ?_, ?_, ?_, ?_, ?_, ?_⟩⟩
      · rw [upd_same, List.map_append]
        rfl
      · refine (r4.snoc (r := [x, y]) upd_same).but But.upd fun w hw => ?_
        rcases List.mem_append.mp hw with hw | hw
        · exact (n2 w hw).2
        · rw [List.mem_singleton.mp hw]; exact hLD
      · intro r hr2
        rcases List.mem_append.mp hr2 with hr2 | hr2
        · exact g2 r hr2
        · rw [List.mem_singleton.mp hr2]
          unfold goodRow
          simp only [List.length_cons, List.length_nil, List.all_cons, List.all_nil, Bool.and_true, Bool.and_eq_true, decide_eq_true_eq]
          exact ⟨trivial, ⟨x0, x1⟩, ⟨y0, y1⟩⟩
      · exact ((hB2.trans hB24).trans (But.of (same_upd hL))).new hD
      · exact (hP4.same (same_upd hL)).set hDp hDq
      · intro w hw
        rcases List.mem_append.mp hw with hw | hw
        · exact n2 w hw
        · rw [List.mem_singleton.mp hw]
          exact ⟨(hB2.trans hB24).free hP4 hL, hLD⟩
    · rintro H2 ⟨qs, T, hl, h2, r2, g2, hB2, hP2, n2⟩
      rw [Int.toNat_natCast] at hl
      have hgood : goodT T 2 = true := by
        unfold goodT
        rw [List.all_eq_true, hl]
        exact g2
      have hf : ∀ x, x < n → nxt T x 0 < n := fun x hx => by
        obtain ⟨_, _, _, h⟩ := goodT_at hgood (s := x) (a := 0) (by omega) (by decide)
        omega
      refine ⟨by decide, fun O hO => ⟨by omega, by omega, ?_⟩⟩
      have hOD : O ≠ D := (ne_of_none h2 hO).symm
      have hOp : O ≠ p := hP2.ne hO
      have hOq : O ≠ q := hP2.neq hO
      obtain ⟨f, hff⟩ : ∃ f, f = fun x => nxt T x 0 := ⟨_, rfl⟩
      have hf' : ∀ x, x < n → f x < n := by rw [hff]; exact hf
      obtain ⟨H3, hH3⟩ : ∃ H3, H3 = upd H2 O (.lst []) := ⟨_, rfl⟩
      have b3 : But O H2 H3 := hH3 ▸ But.upd
      have h3D := b3 _ _ hOD.symm h2
      have nqO : ∀ x ∈ qs, x ≠ O := fun x hx e => by
        obtain ⟨r, _, e2⟩ := r2.some hx
        rw [e, hO] at e2
        cases e2
      have r3 := r2.but b3 nqO
      rw [← hH3]
      refine for_rangeN (fun i σ H4 => (∃ u1 u2 u3 u4, σ = [some (V.ref p), some (nv n), u1, some (.ref D), some (.ref O), u2, u3, u4]) ∧ But O H3 H4 ∧ ∃ outs : List Int, H4 O = some (.lst (outs.map V.int)) ∧ outs.length = i ∧ ∀ j, j < i → ∃ m, IsMin m (ringL f n j) ∧ outs[j]? = some ((m * 3 % 10 : Nat) : Int)) ?_ ?_ ?_
      · exact ⟨⟨_, _, _, _, rfl⟩, But.refl _ _, [], by rw [hH3, upd_same]; rfl, rfl, fun j hj => absurd hj (Nat.not_lt_zero _)⟩
      · rintro i σ H4 N hi ⟨⟨u1, u2, u3, u4, rfl⟩, b4, outs, h4, l4, m4⟩ hN
        have h4D := b4 _ _ hOD.symm h3D
        have r4 := r3.but b4 nqO
        have row0 : ∀ H' x, Same H4 H' → x < n → ∃ (ra : Addr) (r : List Int), (qs.map V.ref)[x]? = some (V.ref ra) ∧ SqL K H' ra (r.map V.int) ∧ (r.map V.int)[0]? = some (nv (f x)) := fun H' x s' hx => by
          obtain ⟨r, er, e0, _⟩ := goodT_at hgood (s := x) (a := 0) (by omega) (by decide)
          obtain ⟨ra, hra, hrow⟩ := r4.get er
          refine ⟨ra, r, by rw [List.getElem?_map, hra]; rfl, SqL.of (s' _ _ hrow), ?_⟩
          rw [List.getElem?_map, e0, hff]
          rfl
        walk_at "rd"
        refine ⟨by omega, by omega, ?_⟩
        refine for_rangeN (fun k σ H5 => (∃ u1, σ = [some (V.ref p), some (nv n), u1, some (.ref D), some (.ref O), some (nv i), some (nv (it f k i)), u4]) ∧ H5 = H4) ?_ ?_ ?_
        · exact ⟨⟨_, rfl⟩, rfl⟩
        · rintro k σ H5 N5 hk ⟨⟨u, rfl⟩, rfl⟩ hN5
          obtain ⟨ra, r, e1, e2, e3⟩ := row0 _ (it f k i) (Same.refl _) (it_lt hf' k i hi)
          walk_at "rd"
          refine ⟨_, SqL.of h4D, _, atI_nat e1, ra, rfl, _, e2, _, atI_nat (j := 0) e3, hN5 _ _ ⟨⟨some (nv k), ?_⟩, rfl⟩⟩
          rw [it_succ]
        · rintro σ H5 ⟨⟨u, rfl⟩, rfl⟩
          walk_at "rd"
          refine ⟨by decide, fun R hR => ⟨by omega, by omega, ?_⟩⟩
          have hRO : R ≠ O := (ne_of_none h4 hR).symm
          have hRD : R ≠ D := (ne_of_none h4D hR).symm
          have nqR : ∀ x ∈ qs, x ≠ R := fun x hx e => by
            obtain ⟨r, _, e2⟩ := r4.some hx
            rw [e, hR] at e2
            cases e2
          refine for_rangeN (fun k σ H6 => (∃ u1, σ = [some (V.ref p), some (nv n), u1, some (.ref D), some (.ref O), some (nv i), some (nv (it f (n + k) i)), some (.ref R)]) ∧ But R H5 H6 ∧ H6 R = some (.lst (((List.range (k + 1)).map fun j => it f (n + j) i).map nv))) ?_ ?_ ?_
          · exact ⟨⟨_, rfl⟩, But.of (same_upd hR), by rw [upd_same]; rfl⟩
          · rintro k σ H6 N6 hk ⟨⟨u, rfl⟩, b6, h6⟩ hN6
            obtain ⟨r, er, e0, _⟩ := goodT_at hgood (s := it f (n + k) i) (a := 0) (by rw [hl]; exact it_lt hf' _ i hi) (by decide)
            obtain ⟨ra, hra, hrow⟩ := r4.get er
            have hrow6 := b6 _ _ (nqR ra (List.mem_of_getElem? hra)) hrow
            have e0' : nxt T (it f (n + k) i) 0 = f (it f (n + k) i) := by rw [hff]
            rw [e0'] at e0
            walk_at "rd"
            refine ⟨_, SqL.of (b6 _ _ hRD.symm h4D), _, at_map hra, ra, rfl, _, SqL.of hrow6, _, at_map e0, tyL h6, _, h6, by rw [List.length_map, List.length_map, List.length_range]; exact smallt (by omega), hN6 _ _ ⟨⟨some (nv k), ?_⟩, b6.trans But.upd, ?_⟩⟩
            · rw [← it_succ f (n + k) i]
              rfl
            · rw [upd_same, List.range_succ (n := k + 1), List.map_append, List.map_append, ← it_succ f (n + k) i]
              rfl
          · rintro σ H6 ⟨⟨u, rfl⟩, b6, h6⟩
            walk_at "rd"
            have h6O := b6 _ _ hRO.symm h4
            have er : ((ringL f n i).map (fun x : Nat => (x : Int))).map V.int = (ringL f n i).map nv := by
              rw [List.map_map]
              rfl
            refine ⟨tyL h6O, (ringL f n i).map (fun x : Nat => (x : Int)), SqL.of (by rw [er]; exact h6), by simp [ringL], fun m hm1 hm2 => ?_⟩
            obtain ⟨m', hm', rfl⟩ := List.mem_map.mp hm1
            have hmin : IsMin m' (ringL f n i) := ⟨hm', fun y hy => by have := hm2 _ (List.mem_map.mpr ⟨y, hy, rfl⟩); omega⟩
            refine ⟨.inr ⟨by decide, by decide⟩, by decide, _, h6O, by rw [List.length_map]; exact smallt (by omega), hN _ _ ⟨⟨_, _, _, _, rfl⟩, ?_, outs ++ [((m' * 3 % 10 : Nat) : Int)], ?_, by rw [List.length_append, l4]; rfl, ?_⟩⟩
            · intro c o nc e
              rw [upd_ne nc]
              have e4 := b4 _ _ nc e
              exact b6 _ _ (ne_of_none e4 hR) e4
            · rw [upd_same, List.map_append]
              have e : ((m' : Int) * 3 % 10) = ((m' * 3 % 10 : Nat) : Int) := by omega
              rw [e]
              rfl
            · intro j hj
              by_cases hj' : j < i
              · obtain ⟨m, h1, h2⟩ := m4 j hj'
                exact ⟨m, h1, by rw [List.getElem?_append_left (by omega)]; exact h2⟩
              · have : j = i := by omega
                subst this
                exact ⟨m', hmin, by rw [List.getElem?_append_right (by omega), l4, Nat.sub_self]; rfl⟩
      · rintro σ H4 ⟨⟨u1, u2, u3, u4, rfl⟩, b4, outs, h4, l4, m4⟩
        walk_at "rd"
        have h4D := b4 _ _ hOD.symm h3D
        have r4 := r3.but b4 nqO
        have b24 : But O H2 H4 := b3.trans b4
        have tok : TOk T outs := by
          refine ⟨by omega, by omega, by omega, fun o ho => ?_, hgood, fun i hi => ?_⟩
          · obtain ⟨j, hj, e⟩ := List.mem_iff_getElem.mp ho
            obtain ⟨m, _, h2⟩ := m4 j (by omega)
            rw [List.getElem?_eq_getElem hj, e] at h2
            have := Option.some.inj h2
            omega
          · rw [hl] at hi
            obtain ⟨m, h1, h2⟩ := m4 i hi
            obtain ⟨k, h3, h5⟩ := m4 (f i) (hf' i hi)
            have e : nxt T i 0 = f i := by rw [hff]
            rw [e, h2, h5, h1.eq h3 fun x => ring_same hf' hi]
        refine ⟨by decide, fun R hR => ?_⟩
        have hRO : R ≠ O := (ne_of_none h4 hR).symm
        have hRD : R ≠ D := (ne_of_none h4D hR).symm
        have fr : ∀ x, x ≠ p → H1 x = none → H x = none := fun x hx e => by
          cases e2 : H x with
          | none => rfl
          | some o =>
            have := hB1 _ _ hx e2
            rw [e] at this
            cases this
        have hB1O : But p H (upd H4 R (.lst [.ref O, .ref D])) := by
          intro c o nc e
          have e1 := hB1 _ _ nc e
          have e2 := hB2 _ _ nc e1
          have nO : c ≠ O := ne_of_none e2 hO
          have e4 := b24 _ _ nO e2
          rw [upd_ne (ne_of_none e4 hR)]
          exact e4
        have hP4 : Pool H4 p q ns := by
          obtain ⟨hne, hq, a, k, hp, h0, h1⟩ := hP2
          exact ⟨hne, b24 _ _ hOq.symm hq, a, k, b24 _ _ hOp.symm hp, h0, h1⟩
        have R1 : H2 R = none := by
          cases e2 : H2 R with
          | none => rfl
          | some o =>
            have := b24 _ _ hRO e2
            rw [hR] at this
            cases this
        have hRp : R ≠ p := hP4.ne hR
        refine ok R O D qs T outs _ hB1O (hP4.same (same_upd hR)) tok (by omega) ?_ ?_ (fr D hDp hD) hRO hRD upd_same ?_ ?_ (r4.same (same_upd hR)) fun x hx => ?_
        · exact fr R hRp (hB2.free hP2 R1)
        · exact fr O hOp (hB2.free hP2 hO)
        · exact (same_upd hR) _ _ h4
        · exact (same_upd hR) _ _ h4D
        · have qp : x ≠ p := fun e => by
            obtain ⟨_, _, a, k, hp, _⟩ := hP1
            have := (n2 x hx).1
            rw [e, hp] at this
            cases this
          exact fr x qp (n2 x hx).1
def sp_is_output : Sp := fun vs H Q _ => ∃ i : Int, vs = [.int i] ∧ Q (.bl (decide (0 ≤ i) && decide (i ≤ 9))) H
theorem c_is_output {f : Addr} {fd : FuncData} (D : C8.Def K mg "is_output" s_is_output f fd) (b : Binds K fd ["value"] []) (z_isinstance : mg "isinstance" = none) (z_int : mg "int" = none) (z_bool : mg "bool" = none) (g_OUTPUT_LIMIT : ∃ u, mg "OUTPUT_LIMIT" = some u ∧ RelV (.int 9) u) : C8.Cal P w K mg base 1 "is_output" sp_is_output [] := by
  refine C8.cal0 D b .nil sc_is_output (fun vs H Q E h => ?_) (fun cdv A outer s H vs Q E hr h => ?_)
  · obtain ⟨_, rfl, _⟩ := h
    rfl
  · obtain ⟨i, rfl, ok⟩ := h
    refine ⟨_, (pss_one (ps_ret (pe_and (pe_callB (isiK K) (by rfl) z_isinstance (by decide +kernel) (pa_cons (pv 0) (pa_cons (pe_bltn (by rfl) z_int (by decide +kernel) (v := .ty "int") rfl) pa_nil))) (pe_and (pe_not (pe_callB (isiK K) (by rfl) z_isinstance (by decide +kernel) (pa_cons (pv 0) (pa_cons (pe_bltn (by rfl) z_bool (by decide +kernel) (v := .ty "bool") rfl) pa_nil)))) (pe_one (pe_chain op_le op_le pe_int (pv 0) (C8.pe_gc (by rfl) g_OUTPUT_LIMIT))))))), ?_⟩
    walk_at "rd"
    refine isi_of (.base (.int i)) (kit_ty (by decide +kernel) : _ = some true) ?_
    walk_at "rd"
    refine isi_of (.base (.int i)) (kit_ty (by decide +kernel) : _ = some false) ?_
    walk_at "rd"
    by_cases h : 0 ≤ i
    · rw [if_pos h]
      rw [decide_eq_true h, Bool.true_and] at ok
      exact ok
    · rw [if_neg h]
      rw [decide_eq_false h, Bool.false_and] at ok
      exact ok
def sp_tinit (C : Addr) : Sp := fun vs H Q _ => ∃ (m dx o t : Addr) (rs : List Addr) (T : List (List Int)) (outs : List Int), vs = [.ref m, .ref o, .ref t] ∧ H m = some (.ins C dx []) ∧ H o = some (.lst (outs.map V.int)) ∧ H t = some (.lst (rs.map V.ref)) ∧ RowsAt H rs T ∧ TOk T outs ∧
  ∀ L H', But m H H' → ToldP C H' L m T outs → (∀ a ∈ L, a = m ∨ H a = none) → Q .non H'
theorem k_Told {f : Addr} {fd : FuncData} {CT : Addr} (M : Mk K CT f) (hm : mg "Told" = some (.ref CT)) (c_T : Cls K CT) (F : C8.Fun K "__init__" "Told.__init__" s_Told___init__ f fd) (b : Binds K fd ["self", "outputs", "table"] []) (t_outputs : NoAttr K CT "outputs") (t_table : NoAttr K CT "table") (c_is_output : C8.Cal P w K mg base 1 "is_output" sp_is_output []) (c_is_table : C8.Cal P w K mg base 2 "is_table" sp_is_table []) (z_len : mg "len" = none) (z_enumerate : mg "enumerate" = none) (z_list : mg "list" = none) (z_all : mg "all" = none) (g_TOLD_STATES : ∃ u, mg "TOLD_STATES" = some u ∧ RelV (.int 40) u) : C8.Mak P w K mg base 3 "Told" CT (sp_tinit CT) [] := by
  refine C8.mak0 M hm F b .nil sc_Told___init__ (fun vs H Q E h => ?_) (fun cdv A outer s H vs Q E hr h => ?_)
  · obtain ⟨_, _, _, _, _, _, _, rfl, _⟩ := h
    rfl
  · obtain ⟨m, dx, o, t, rs, T, outs, rfl, hm, ho, ht, hr1, ok0, ok⟩ := h
    refine ⟨_, (pss_cons (ps_if (PW.pt (pw_or (pt_cmpR (op_eq) (pe_callB (lenS K) (by rfl) z_len PySem.boot_len (pa_cons (pv 1) pa_nil)) pe_int (nomark _)) (pw_or1 (pt_not (pt_val (pe_callB (allQ K) (by rfl) z_all (by decide +kernel) (pa_cons (pe_lc (own := [("output", 5)]) (g := (gName 5)) (tt := tYes) rfl sc_Told___init__.nd (piL K (pv 1)) (blkOk_by (N := N_Told___init__) (sc := C8.fnScope s_Told___init__) (by decide +kernel)) (fun _ _ _ _ _ => (pg_name (i := 5) sc_Told___init__.nd rfl (by first | exact Or.inl rfl | exact Or.inr rfl))) (fun _ _ _ _ _ => pts_nil) (fun _ _ _ _ _ => (C8.pe_c c_is_output hr (by decide) (by rfl) (pa_cons (pv 5) pa_nil)))) pa_nil))))))) (pss_one ps_never) pss_nil) (pss_cons (ps_if (PW.pt (pw_or (pt_cmpR (op_ne) (pe_callB (lenS K) (by rfl) z_len PySem.boot_len (pa_cons (pv 2) pa_nil)) (pe_callB (lenS K) (by rfl) z_len PySem.boot_len (pa_cons (pv 1) pa_nil)) (nomark _)) (pw_or1 (pt_not (pt_val (C8.pe_c c_is_table hr (by decide) (by rfl) (pa_cons (pv 2) (pa_cons pe_int pa_nil)))))))) (pss_one ps_never) pss_nil) (pss_cons (ps_if (pt_cmpR (op_gt) (pe_callB (lenS K) (by rfl) z_len PySem.boot_len (pa_cons (pv 1) pa_nil)) (C8.pe_gc (by rfl) g_TOLD_STATES) (nomark _)) (pss_one ps_never) pss_nil) (C8.pss_cut (ps_for PassesOwn.never rfl (piE K (by rfl) z_enumerate (pa_cons (pv 2) pa_nil)) (pg_tup (n := 2) rfl (pgs_cons (pg_name (i := 3) sc_Told___init__.nd rfl (by first | exact Or.inl rfl | exact Or.inr rfl)) (pgs_cons (pg_name (i := 4) sc_Told___init__.nd rfl (by first | exact Or.inl rfl | exact Or.inr rfl)) pgs_nil))) (pss_one (ps_if (pt_cmpR (op_ne) (pe_ix (ixL K) (pv 1) (pv 3) (fun _ _ => rfl)) (pe_ix (ixL K) (pv 1) (pe_ix (ixL K) (pv 4) pe_int (fun _ _ => rfl)) (fun _ _ => rfl)) (nomark _)) (pss_one ps_never) pss_nil))) (pss_cons (ps_fldK K (pv 0) (pe_callTy (listOf K) (by rfl) z_list (by decide +kernel) (pa_cons (pv 1) pa_nil)) (by rfl)) (pss_one (ps_fldK K (pv 0) (pe_lc (own := [("row", 4)]) (g := (gName 4)) (tt := tYes) rfl sc_Told___init__.nd (piL K (pv 2)) (blkOk_by (N := N_Told___init__) (sc := C8.fnScope s_Told___init__) (by decide +kernel)) (fun _ _ _ _ _ => (pg_name (i := 4) sc_Told___init__.nd rfl (by first | exact Or.inl rfl | exact Or.inr rfl))) (fun _ _ _ _ _ => pts_nil) (fun _ _ _ _ _ => (pe_callTy (listOf K) (by rfl) z_list (by decide +kernel) (pa_cons (pv 4) pa_nil)))) (by rfl)))))))), ?_⟩
    walk_at "rd"
    have hT0 : ((rs.map V.ref).length : Int) = (T.length : Int) := by rw [List.length_map, hr1.len]
    have hout : ((outs.map V.int).length : Int) = (T.length : Int) := by rw [List.length_map, ok0.al]
    have hpos := ok0.pos
    have hle := ok0.le
    have hrw : ∀ r ∈ T, r.length = 2 := fun r hr2 => by
      have h1 := List.all_eq_true.mp ok0.good r hr2
      unfold goodRow at h1
      rw [Bool.and_eq_true, decide_eq_true_eq] at h1
      exact h1.1
    refine ⟨_, .inl (SqL.of ho), ?_⟩
    rw [hout, if_neg (by omega)]
    refine ⟨⟨_, SqL.of ho⟩, fun D hD => ?_⟩
    refine lc_map (walk_list (xs := outs.map V.int)) (fun j => .bl (decide (0 ≤ outs.getD j 0) && decide (outs.getD j 0 ≤ 9))) (by rw [List.length_map, ok0.al]; omega) hD (fun H5 s5 => s5.seq (SqL.of ho)) ?_ ?_
    · rintro j x H5 H6 N2 hj s5 ⟨rfl, ez⟩ hN2
      rw [List.length_map] at hj
      rw [List.getElem?_map, List.getElem?_eq_getElem hj] at ez
      cases ez
      walk_at "rd"
      have h := hN2 _ (Same.refl _)
      rw [List.getD_eq_getElem?_getD, List.getElem?_eq_getElem hj] at h
      exact ⟨_, rfl, h⟩
    intro H1 s1 h1
    have eall : (List.range (outs.map V.int).length).map (fun j => V.bl (decide (0 ≤ outs.getD j 0) && decide (outs.getD j 0 ≤ 9))) = (List.replicate outs.length true).map V.bl := by
      refine List.ext_getElem (by simp) fun j p q => ?_
      have hj : j < outs.length := by simpa using p
      simp only [List.getElem_map, List.getElem_range, List.getElem_replicate]
      have := ok0.rng outs[j] (List.getElem_mem hj)
      rw [List.getD_eq_getElem?_getD, List.getElem?_eq_getElem hj, Option.getD_some, decide_eq_true this.1, decide_eq_true this.2]
      rfl
    rw [eall] at h1
    refine ⟨_, SqL.of h1, ?_⟩
    have eid : (List.replicate outs.length true).all id = true := by simp
    rw [eid, if_neg (by decide)]
    refine ⟨_, .inl (SqL.of (s1 _ _ ht)), _, .inl (SqL.of (s1 _ _ ho)), ?_⟩
    rw [hT0, hout, if_pos rfl]
    refine ⟨t, rs, T, 2, rfl, s1 _ _ ht, hr1.same s1, by omega, fun r hr2 => by rw [hrw r hr2]; omega, fun H2 s2 => ?_⟩
    rw [ok0.good]
    refine ⟨true, rfl, ?_⟩
    rw [if_neg (by decide)]
    have s12 := s1.trans s2
    refine ⟨_, .inl (SqL.of (s12 _ _ ho)), ?_⟩
    rw [hout, if_neg (by omega)]
    refine cut_by (fun σ' H' => (∃ o1 o2, σ' = [some (V.ref m), some (.ref o), some (.ref t), o1, o2, none]) ∧ Same H2 H') (fun N hN => ?_) ?_
    · walk_at "rd"
      refine ⟨_, SqL.of (s12 _ _ ht), for_enumN (xs := rs.map V.ref) (fun i σ H3 => (∃ o1 o2, σ = [some (V.ref m), some (.ref o), some (.ref t), o1, o2, none]) ∧ Same H2 H3) ?_ ?_ ?_ ?_⟩
      · exact ⟨⟨_, _, rfl⟩, Same.refl _⟩
      · rintro i σ H3 _ ⟨_, s3⟩
        exact SqL.of (s3 _ _ (s12 _ _ ht))
      · rintro i x Tp σ H3 N2 hx ⟨⟨o1, o2, rfl⟩, s3⟩ hTp hN2
        rw [List.getElem?_map] at hx
        obtain ⟨ra, hra, rfl⟩ := Option.map_eq_some_iff.mp hx
        have hi : i < T.length := by rw [← hr1.len]; exact (List.getElem?_eq_some_iff.mp hra).1
        obtain ⟨r, er, e0, lt0⟩ := goodT_at ok0.good hi (a := 0) (by decide)
        have s4 : Same H3 (upd H3 Tp (.tup [V.int (i : Nat), V.ref ra])) := same_upd hTp
        have sA := (s12.trans s3).trans s4
        have hrow := sA _ _ (hr1.at_ i ra r hra er)
        have hoA := sA _ _ ho
        have hset := ok0.set i hi
        have e1 := ok0.at_ hi
        walk_at "rd"
        refine ⟨_, SqT.of upd_same, rfl, _, _, rfl, _, _, rfl, rfl, _, _, rfl, SqL.of hoA, .int (outs.getD i 0), at_map e1, ?_⟩
        refine ⟨ra, rfl, _, SqL.of hrow, _, at_map e0, _, _, rfl, SqL.of hoA, .int (outs.getD i 0), at_map (hset ▸ e1), rfl, ?_⟩
        rw [if_pos rfl]
        exact hN2 _ _ ⟨⟨_, _, rfl⟩, s3.trans s4⟩
      · rintro σ H3 ⟨⟨o1, o2, rfl⟩, s3⟩
        exact hN _ _ ⟨⟨_, _, rfl⟩, s3⟩
    · rintro σ' H3 ⟨⟨o1, o2, rfl⟩, s3⟩
      walk_at "rd"
      have s13 := s12.trans s3
      have ho3 := s13 _ _ ho
      have ht3 := s13 _ _ ht
      have hm3 := s13 _ _ hm
      have nom : o ≠ m := ne_of ho hm (by intro z; cases z)
      have ntm : t ≠ m := ne_of ht hm (by intro z; cases z)
      refine ⟨_, .inl (SqL.of ho3), fun A hA => ?_⟩
      have sA : Same H3 (upd H3 A (.lst (outs.map V.int))) := same_upd hA
      refine flds_of c_T t_outputs (sA _ _ hm3) (by decide) ?_
      have nAm : A ≠ m := (ne_of_none hm3 hA).symm
      obtain ⟨H4, hH4⟩ : ∃ H4, H4 = upd (upd H3 A (.lst (outs.map V.int))) m (.ins CT dx (putF "outputs" (.ref A) [])) := ⟨_, rfl⟩
      have e4 : upd (upd H3 A (.lst (outs.map V.int))) m (.ins CT dx (putF (Str.ofString "outputs") (.ref A) [])) = H4 := hH4.symm
      rw [e4]
      have hm4 : H4 m = some (.ins CT dx (putF "outputs" (.ref A) [])) := by rw [hH4, upd_same]
      have b4 : But m H3 H4 := hH4 ▸ (But.of sA).trans But.upd
      have hA4 : H4 A = some (.lst (outs.map V.int)) := by rw [hH4, upd_ne nAm, upd_same]
      have ht4 := b4 _ _ ntm ht3
      have nrm : ∀ r ∈ rs, r ≠ m := fun r hr2 e => by
        obtain ⟨r', _, e2⟩ := hr1.some hr2
        rw [e, hm] at e2
        cases e2
      have hr4 := (hr1.same s13).but b4 nrm
      walk_at "rd"
      refine ⟨⟨_, SqL.of ht4⟩, fun D2 hD2 => ?_⟩
      refine lc_copy ht4 hr4 (by omega) hD2 (fun a r H N ha hN => ?_) ?_
      · walk_at "rd"
        exact ⟨_, .inl (SqL.of ha), fun L hL => hN L hL⟩
      intro H5 qs s5 h5 q5 n5
      have hm5 := s5 _ _ hm4
      refine flds_of c_T t_table hm5 (by rw [show (putF "outputs" (V.ref A) []).length = 1 from rfl]; decide) ?_
      have nDm : D2 ≠ m := (ne_of_none hm4 hD2).symm
      have nqm : ∀ q ∈ qs, q ≠ m := fun q hq => (ne_of_none hm4 (n5 q hq).1).symm
      have b5 : But m H5 (upd H5 m (.ins CT dx (tflds A D2))) := But.upd
      have bAll : But m H (upd H5 m (.ins CT dx (tflds A D2))) := (((But.of s13).trans b4).trans (But.of s5)).trans b5
      have free : ∀ q, q ≠ m → H4 q = none → H q = none := fun q nq hq => s13.free (But.none b4 nq hq)
      refine ok (m :: A :: D2 :: qs) _ bAll ⟨dx, A, D2, qs, rfl, upd_same, b5 _ _ nAm (s5 _ _ hA4), b5 _ _ nDm h5, q5.but b5 nqm⟩ fun a ha => ?_
      simp only [List.mem_cons] at ha
      rcases ha with rfl | rfl | rfl | z
      · exact .inl rfl
      · exact .inr (s13.free hA)
      · exact .inr (free _ nDm hD2)
      · exact .inr (free _ (nqm a z) (n5 a z).1)
def sp_output (C : Addr) : Sp := fun vs H Q _ => ∃ (d : Addr) (L : List Addr) (T : List (List Int)) (outs : List Int) (n : Nat), vs = [.ref d, nv n] ∧ ToldP C H L d T outs ∧ TOk T outs ∧ Q (.int (outOf T outs n)) H
theorem m_Told_output {f : Addr} {fd : FuncData} {CT : Addr} (c_T : Cls K CT) (me : Meth K CT "output" f) (F : C8.Fun K "output" "Told.output" s_Told_output f fd) (b : Binds K fd ["self", "number"] []) (t_outputs : NoAttr K CT "outputs") (t_table : NoAttr K CT "table") : C8.Met P w K mg base 1 CT "output" (sp_output CT) [] := by
  refine C8.met0 c_T me F b sc_Told_output (fun vs H Q E h => ?_) (fun cdv A outer s H vs Q E hr h => ?_)
  · obtain ⟨_, _, _, _, _, rfl, _⟩ := h
    rfl
  · obtain ⟨d, L, T, outs, n, rfl, hd, hk, ok⟩ := h
    refine ⟨_, (pss_cons (ps_set (i := 2) sc_Told_output.nd rfl (by first | exact Or.inl rfl | exact Or.inr rfl) pe_int) (pss_cons (ps_while PassesOwn.never (pt_cmpR (op_gt) (pv 1) pe_int (nomark _)) (pss_cons (ps_set (i := 2) sc_Told_output.nd rfl (by first | exact Or.inl rfl | exact Or.inr rfl) (pe_ix (ixL K) (pe_ix (ixL K) (pe_fd K (pv 0) (by rfl)) (pv 2) (fun _ _ => rfl)) (pe_op op_mod (pv 1) pe_int) (fun _ _ => rfl))) (pss_one (ps_aug (i := 1) sc_Told_output.nd rfl (by first | exact Or.inl rfl | exact Or.inr rfl) pe_int iop_fdiv)))) (pss_one (ps_ret (pe_ix (ixL K) (pe_fd K (pv 0) (by rfl)) (pv 2) (fun _ _ => rfl)))))), ?_⟩
    walk_at "rd"
    obtain ⟨dx, o, t, rs, rfl, h1, h2, h3, h4⟩ := hd
    obtain ⟨W, hW⟩ : ∃ W, W = fun (k : Nat) (σ : L2.St) (H2 : Hp) => ∃ x s : Nat, k = x ∧ σ = [some (V.ref d), some (nv x), some (nv s)] ∧ H2 = H ∧ s < T.length ∧ runT T s (dg x) = runT T 0 (dg n) := ⟨_, rfl⟩
    refine while_W W ?_ ?_
    · rw [hW]
      exact ⟨n, n, 0, rfl, rfl, rfl, hk.pos, rfl⟩
    · intro x σ H2 hw
      rw [hW] at hw
      obtain ⟨_, s, rfl, rfl, rfl, hs, hrun⟩ := hw
      walk_at "rd"
      by_cases h0 : x = 0
      · subst h0
        rw [if_neg (by decide)]
        refine fld_of c_T t_outputs h1 (tf_o _ _) ⟨o, rfl, _, SqL.of h2, _, at_map (hk.at_ hs), ?_⟩
        have e : outs.getD s 0 = outOf T outs n := by
          unfold outOf
          rw [← hrun]
          rfl
        rw [e]
        exact ok
      · rw [if_pos (by omega)]
        refine nxw_of fun N hN => ?_
        walk_at "rd"
        have hx2 : x % 2 < 2 := Nat.mod_lt _ (by decide)
        obtain ⟨r, er, e0, lt0⟩ := goodT_at hk.good hs hx2
        obtain ⟨ra, hra, hrow⟩ := h4.get er
        refine fld_of c_T t_table h1 (tf_t _ _) ⟨t, rfl, _, SqL.of h3, _, at_map hra, by decide, ra, rfl, _, SqL.of hrow, _, at_map e0, ⟨by decide, by decide⟩, ?_⟩
        refine hN (x / 2) _ _ (by omega) ?_
        rw [hW]
        refine ⟨x / 2, nxt T s (x % 2), rfl, ?_, rfl, lt0, ?_⟩
        · have e : ((x : Nat) : Int) / 2 = ((x / 2 : Nat) : Int) := by omega
          rw [e]
        · rw [← hrun, dg_pos h0]
          rfl
def sp_tmachine (C M : Addr) : Sp := fun vs H Q _ => ∃ (d : Addr) (L : List Addr) (T : List (List Int)) (outs : List Int) (o : Int), vs = [.ref d, .int o] ∧ ToldP C H L d T outs ∧ TOk T outs ∧ ∀ m A H', Same H H' → (∀ a ∈ A, H a = none) → MachP M H' A m 1 T (outs.map fun x => decide (x = o)) → Q (.ref m) H'
theorem m_Told_machine {f : Addr} {fd : FuncData} {CT : Addr} (c_T : Cls K CT) (me : Meth K CT "machine" f) (F : C8.Fun K "machine" "Told.machine" s_Told_machine f fd) (b : Binds K fd ["self", "output"] []) (t_outputs : NoAttr K CT "outputs") (t_table : NoAttr K CT "table") {CM : Addr} (k_Machine : C8.Mak P w K mg base 3 "Machine" CM (sp_minit CM) []) : C8.Met P w K mg base 5 CT "machine" (sp_tmachine CT CM) [] := by
  refine C8.met0 c_T me F b sc_Told_machine (fun vs H Q E h => ?_) (fun cdv A outer s H vs Q E hr h => ?_)
  · obtain ⟨_, _, _, _, _, rfl, _⟩ := h
    rfl
  · obtain ⟨d, L, T, outs, o, rfl, hd, hk, ok⟩ := h
    refine ⟨_, (pss_one (ps_ret (C8.pe_mk k_Machine hr (by decide) (by rfl) (pa_cons pe_int (pa_cons (pe_fd K (pv 0) (by rfl)) (pa_cons (pe_lc (own := [("each", 2)]) (g := (gName 2)) (tt := tYes) rfl sc_Told_machine.nd (piL K (pe_fd K (pv 0) (by rfl))) (blkOk_by (N := N_Told_machine) (sc := C8.fnScope s_Told_machine) (by decide +kernel)) (fun _ _ _ _ _ => (pg_name (i := 2) sc_Told_machine.nd rfl (by first | exact Or.inl rfl | exact Or.inr rfl))) (fun _ _ _ _ _ => pts_nil) (fun _ _ _ _ _ => (pe_cmpR (op_eq) (pv 2) (pv 1) (nomark _)))) pa_nil)))))), ?_⟩
    walk_at "rd"
    obtain ⟨dx, u, t, rs, rfl, h1, h2, h3, h4⟩ := hd
    refine fld_of c_T t_table h1 (tf_t _ _) ?_
    refine fld_of c_T t_outputs h1 (tf_o _ _) ?_
    refine ⟨u, rfl, ⟨_, SqL.of h2⟩, fun D hD => ?_⟩
    refine lc_map (walk_list (xs := outs.map V.int)) (fun j => .bl (decide (outs.getD j 0 = o))) (by have := hk.le; rw [List.length_map, hk.al]; omega) hD (fun H5 s5 => s5.seq (SqL.of h2)) ?_ ?_
    · rintro j x H5 H6 N2 hj s5 ⟨rfl, ez⟩ hN2
      rw [List.length_map] at hj
      rw [List.getElem?_map, List.getElem?_eq_getElem hj] at ez
      cases ez
      walk_at "rd"
      have h := hN2 _ (Same.refl _)
      rw [List.getD_eq_getElem?_getD, List.getElem?_eq_getElem hj] at h
      exact h
    intro H1 s1 e1
    have eall : (List.range (outs.map V.int).length).map (fun j => V.bl (decide (outs.getD j 0 = o))) = (outs.map fun x => decide (x = o)).map V.bl := by
      refine List.ext_getElem (by simp) fun j p q => ?_
      have hj : j < outs.length := by simpa using p
      simp only [List.getElem_map, List.getElem_range]
      rw [List.getD_eq_getElem?_getD, List.getElem?_eq_getElem hj]
      rfl
    rw [eall] at e1
    intro x dx2 hx hdx ne
    have hx2 : (upd H1 dx2 (.own x)) x = none := by rw [upd_ne ne.symm]; exact hx
    have t6 : Same H1 (upd (upd H1 dx2 (.own x)) x (.ins CM dx2 [])) := (same_upd hdx).trans (same_upd hx2)
    have t7 := s1.trans t6
    refine ⟨x, dx2, t, D, rs, 1, T, _, rfl, upd_same, t7 _ _ h3, h4.same t7, t6 _ _ e1, hk.mach o, fun H' bm mn => ⟨rfl, ?_⟩⟩
    obtain ⟨A, mp, fr⟩ := mn.parts
    refine ok x A H' (same_of_but (s1.free hx) ((But.of t7).trans bm)) (fun a ha => ?_) mp
    rcases fr a ha with rfl | e
    · exact s1.free hx
    · exact t7.free e
def sp_at : Sp := fun vs H Q _ => ∃ (o t : Addr) (rs : List Addr) (T : List (List Int)) (outs : List Int) (n k : Nat), vs = [.ref o, .ref t, nv n, nv k] ∧ H o = some (.lst (outs.map V.int)) ∧ H t = some (.lst (rs.map V.ref)) ∧ RowsAt H rs T ∧ TOk T outs ∧ n < 2 ^ 40 ∧ k ≤ 100 ∧ Q (.int (outOf T outs n)) H
theorem c__law_at {f : Addr} {fd : FuncData} (D : C8.Def K mg "_law_at" s__law_at f fd) (b : Binds K fd ["outputs", "table", "number", "more"] []) (z_range : mg "range" = none) (z_int : mg "int" = none) : C8.Cal P w K mg base 1 "_law_at" sp_at [] := by
  refine C8.cal0 D b .nil sc__law_at (fun vs H Q E h => ?_) (fun cdv A outer s H vs Q E hr h => ?_)
  · obtain ⟨_, _, _, _, _, _, _, rfl, _⟩ := h
    rfl
  · obtain ⟨o, t, rs, T, outs, n, k, rfl, h2, h3, h4, hk, hn, hk2, ok⟩ := h
    refine ⟨_, (pss_cons (ps_set (i := 4) sc__law_at.nd rfl (by first | exact Or.inl rfl | exact Or.inr rfl) pe_int) (pss_cons (ps_for PassesOwn.never rfl (pi_range1 (by rfl) z_range (pa_cons (pe_op op_add pe_int (pv 3)) pa_nil)) (pg_name (i := 5) sc__law_at.nd rfl (by first | exact Or.inl rfl | exact Or.inr rfl)) (pss_cons (ps_set (i := 4) sc__law_at.nd rfl (by first | exact Or.inl rfl | exact Or.inr rfl) (pe_ix (ixL K) (pe_ix (ixL K) (pv 1) (pv 4) (fun _ _ => rfl)) (pe_op op_mod (pe_callTy call_int1 (by rfl) z_int (by decide +kernel) (pa_cons (pv 2) pa_nil)) pe_int) (fun _ _ => rfl))) (pss_one (ps_set (i := 2) sc__law_at.nd rfl (by first | exact Or.inl rfl | exact Or.inr rfl) (pe_op op_fdiv (pv 2) pe_int))))) (pss_one (ps_ret (pe_ix (ixL K) (pv 0) (pv 4) (fun _ _ => rfl)))))), ?_⟩
    walk_at "rd"
    have e40 : (40 : Int) + (k : Int) = ((40 + k : Nat) : Int) := by omega
    rw [e40]
    refine ⟨by omega, by omega, ?_⟩
    refine for_rangeN (fun i σ H2 => (∃ u1, σ = [some (V.ref o), some (.ref t), some (nv (n / 2 ^ i)), some (nv k), some (nv (runT T 0 (bitsL n i))), u1]) ∧ H2 = H) ?_ ?_ ?_
    · refine ⟨⟨none, ?_⟩, rfl⟩
      rw [Nat.pow_zero, Nat.div_one]
      rfl
    · rintro i σ H2 N hi ⟨⟨u1, rfl⟩, rfl⟩ hN
      walk_at "rd"
      have hx2 : n / 2 ^ i % 2 < 2 := Nat.mod_lt _ (by decide)
      obtain ⟨r, er, e0, lt0⟩ := goodT_at hk.good (hk.run (bitsL_bits n i)) hx2
      obtain ⟨ra, hra, hrow⟩ := h4.get er
      refine ⟨_, SqL.of h3, _, at_map hra, by decide, ra, rfl, _, SqL.of hrow, _, at_map e0, ⟨by decide, by decide⟩, ?_⟩
      refine hN _ _ ⟨⟨some (.int (i : Nat)), ?_⟩, rfl⟩
      rw [bitsL_snoc, runT_snoc, Nat.pow_succ, ← Nat.div_div_eq_div_mul]
      rfl
    · rintro σ H2 ⟨⟨u1, rfl⟩, rfl⟩
      walk_at "rd"
      have hb := blen_le hn
      have e := hk.pad n (40 + k - blen n)
      rw [show blen n + (40 + k - blen n) = 40 + k by omega] at e
      refine ⟨_, SqL.of h2, _, at_map e, ok⟩
theorem two_shaped (outs : List Int) (T : List (List Int)) : SeqAt.shaped (.list [.list (outs.map intD), .list (T.map rowD)]) = true := by
  have := rows_depth T
  simp [SeqAt.shaped, PyData.canLay0, PyData.canLayAll0, PyData.depth, PyData.depthAll, ints_lay, rows_lay, ints_depth]
  omega
/-- what stands through the law -/
structure St0 (CT p q : Addr) (ns : List Int) (r o t : Addr) (rs : List Addr) (T : List (List Int)) (outs : List Int) (L : List Addr) (x : Addr) (H : Hp) : Prop where
  pool : Pool H p q ns
  hr : H r = some (.lst [.ref o, .ref t])
  ho : H o = some (.lst (outs.map V.int))
  ht : H t = some (.lst (rs.map V.ref))
  rows : RowsAt H rs T
  word : ToldP CT H L x T outs
  nr : r ≠ p
  no : o ≠ p
  nt : t ≠ p
  nrs : ∀ y ∈ rs, y ≠ p
  nL : p ∉ L
theorem St0.same {CT p q : Addr} {ns : List Int} {r o t : Addr} {rs : List Addr} {T : List (List Int)} {outs : List Int} {L : List Addr} {x : Addr} {H H' : Hp} (h : St0 CT p q ns r o t rs T outs L x H) (s : Same H H') : St0 CT p q ns r o t rs T outs L x H' :=
  ⟨h.pool.same s, s _ _ h.hr, s _ _ h.ho, s _ _ h.ht, h.rows.same s, h.word.same s, h.nr, h.no, h.nt, h.nrs, h.nL⟩
theorem St0.but {CT p q : Addr} {ns : List Int} {r o t : Addr} {rs : List Addr} {T : List (List Int)} {outs : List Int} {L : List Addr} {x : Addr} {H H' : Hp} (h : St0 CT p q ns r o t rs T outs L x H) (b : But p H H') (P : Pool H' p q ns) : St0 CT p q ns r o t rs T outs L x H' :=
  ⟨P, b _ _ h.nr h.hr, b _ _ h.no h.ho, b _ _ h.nt h.ht, h.rows.but b h.nrs, h.word.but b h.nL, h.nr, h.no, h.nt, h.nrs, h.nL⟩
def spLaw (K : PySem.W.Frag) : Sp := fun vs H Q _ => ∃ (a : Addr) (ns : List Int), vs = [.ref a] ∧ SqL K H a (ns.map V.int) ∧ ns.length ≤ 63 ∧ ∀ H', Q (.bl true) H'
theorem f_law {f : Addr} {fd : FuncData} (D : C8.Def K mg "law" s_law f fd) (c__law_take : C8.Cal P w K mg base 2 "_law_take" sp_take []) (c__law_number : C8.Cal P w K mg base 3 "_law_number" sp_number []) (c__law_pool : C8.Cal P w K mg base 1 "_law_pool" (sp_pool K) []) (c__law_told_states : C8.Cal P w K mg base 3 "_law_told_states" sp_told_states []) (c__law_at : C8.Cal P w K mg base 1 "_law_at" sp_at []) {CM : Addr} (c_M : Cls K CM) (n_width : NoAttr K CM "width") (n_table : NoAttr K CM "table") (n_accepting : NoAttr K CM "accepting") (m_Machine_takes : C8.Met P w K mg base 3 CM "takes" (sp_takes K CM) []) {CT : Addr} (c_T : Cls K CT) (t_outputs : NoAttr K CT "outputs") (t_table : NoAttr K CT "table") (k_Told : C8.Mak P w K mg base 3 "Told" CT (sp_tinit CT) []) (m_Told_output : C8.Met P w K mg base 1 CT "output" (sp_output CT) []) (m_Told_machine : C8.Met P w K mg base 5 CT "machine" (sp_tmachine CT CM) []) (z_list : mg "list" = none) (z_len : mg "len" = none) (z_range : mg "range" = none) (z_isinstance : mg "isinstance" = none) (z_bool : mg "bool" = none) : FnOk P w K mg base C8.CX0 7 f fd ["script"] (spLaw K) := by
  refine C8.fn0 D.fn sc_law (fun vs H Q E h => ?_) (fun cdv A outer s H vs Q E hr h => ?_)
  · obtain ⟨_, _, rfl, _⟩ := h
    rfl
  · obtain ⟨a0, ns, rfl, hS, hn, ok⟩ := h
    refine ⟨_, (pss_cons (ps_set (i := 1) sc_law.nd rfl (by first | exact Or.inl rfl | exact Or.inr rfl) (C8.pe_c c__law_pool hr (by decide) (by rfl) (pa_cons (pv 0) pa_nil))) (pss_cons (ps_set (i := 2) sc_law.nd rfl (by first | exact Or.inl rfl | exact Or.inr rfl) (C8.pe_c c__law_told_states hr (by decide) (by rfl) (pa_cons (pv 1) pa_nil))) (pss_cons (ps_set (i := 3) sc_law.nd rfl (by first | exact Or.inl rfl | exact Or.inr rfl) (pe_lst (pa_cons (pe_callTy (listOf K) (by rfl) z_list (by decide +kernel) (pa_cons (pe_ix (ixL K) (pv 2) pe_int (fun _ _ => rfl)) pa_nil)) (pa_cons (pe_lc (own := [("row", 13)]) (g := (gName 13)) (tt := tYes) rfl sc_law.nd (piL K (pe_ix (ixL K) (pv 2) pe_int (fun _ _ => rfl))) (blkOk_by (N := N_law) (sc := C8.fnScope s_law) (by decide +kernel)) (fun _ _ _ _ _ => (pg_name (i := 13) sc_law.nd rfl (by first | exact Or.inl rfl | exact Or.inr rfl))) (fun _ _ _ _ _ => pts_nil) (fun _ _ _ _ _ => (pe_callTy (listOf K) (by rfl) z_list (by decide +kernel) (pa_cons (pv 13) pa_nil)))) pa_nil)))) (pss_cons (ps_set (i := 4) sc_law.nd rfl (by first | exact Or.inl rfl | exact Or.inr rfl) (C8.pe_mk k_Told hr (by decide) (by rfl) (pa_cons (pe_ix (ixL K) (pv 3) pe_int (fun _ _ => rfl)) (pa_cons (pe_ix (ixL K) (pv 3) pe_int (fun _ _ => rfl)) pa_nil)))) (C8.pss_cut (ps_if (pt_cmpR (neDK K (hu64 hr)) (pv 3) (pv 2) (nomark _)) (pss_one (ps_ret pe_bl)) pss_nil) (pss_cons (ps_asg (pe_op op_sub pe_int (pe_ix (ixL K) (pe_ix (ixL K) (pv 3) pe_int (fun _ _ => rfl)) pe_int (fun _ _ => rfl))) (pg_sub (pe_ix (ixL K) (pv 3) pe_int (fun _ _ => rfl)) pe_int set_list)) (pss_cons (ps_asg (pe_op op_sub (pe_op op_sub (pe_callB (lenS K) (by rfl) z_len PySem.boot_len (pa_cons (pe_ix (ixL K) (pv 3) pe_int (fun _ _ => rfl)) pa_nil)) pe_int) (pe_ix (ixL K) (pe_ix (ixL K) (pe_ix (ixL K) (pv 3) pe_int (fun _ _ => rfl)) pe_int (fun _ _ => rfl)) pe_int (fun _ _ => rfl))) (pg_sub (pe_ix (ixL K) (pe_ix (ixL K) (pv 3) pe_int (fun _ _ => rfl)) pe_int (fun _ _ => rfl)) pe_int set_list)) (C8.pss_cut (ps_expr (pe_bm PySem.F.plainAttrs_list PySem.F.slot_list_append PySem.F.type_list_append mt_append (pe_ix (ixL K) (pv 3) pe_int (fun _ _ => rfl)) (pa_cons (pe_lst (pa_cons pe_int (pa_cons pe_int pa_nil))) pa_nil))) (C8.pss_cut (ps_if (PW.pt (pw_or (pt_cmpR (neDK K (hu64 hr)) (pe_fd K (pv 4) (by rfl)) (pe_ix (ixL K) (pv 2) pe_int (fun _ _ => rfl)) (nomark _)) (pw_or1 (pt_cmpR (neDK K (hu64 hr)) (pe_fd K (pv 4) (by rfl)) (pe_ix (ixL K) (pv 2) pe_int (fun _ _ => rfl)) (nomark _))))) (pss_one (ps_ret pe_bl)) pss_nil) (pss_cons (ps_set (i := 5) sc_law.nd rfl (by first | exact Or.inl rfl | exact Or.inr rfl) (pe_lst (pa_cons (pe_ix (ixL K) (pe_ix (ixL K) (pv 2) pe_int (fun _ _ => rfl)) pe_int (fun _ _ => rfl)) (pa_cons (pe_ix (ixL K) (pe_ix (ixL K) (pv 2) pe_int (fun _ _ => rfl)) (pe_un un_neg pe_int) (fun _ _ => rfl)) (pa_cons (C8.pe_c c__law_take hr (by decide) (by rfl) (pa_cons (pv 1) (pa_cons pe_int pa_nil))) (pa_cons pe_int pa_nil)))))) (pss_cons (ps_setLc (i := 6) (own := [("output", 12)]) (g := (gName 12)) (tt := tYes) rfl sc_law.nd rfl rfl (sw_true rfl rfl rfl (by decide +kernel)) (piL K (pv 5)) (blkOk_by (N := N_law) (sc := C8.fnScope s_law) (by decide +kernel)) (fun _ _ _ _ _ => (pg_name (i := 12) sc_law.nd rfl (by first | exact Or.inl rfl | exact Or.inr rfl))) (fun _ _ _ _ _ => pts_nil) (fun _ _ _ _ _ => (C8.pe_mt m_Told_machine hr (by decide) (pv 4) (pa_cons (pv 12) pa_nil)))) (pss_cons (ps_for PassesOwn.never rfl (pi_range1 (by rfl) z_range (pa_cons pe_int pa_nil)) (pg_name (i := 7) sc_law.nd rfl (by first | exact Or.inl rfl | exact Or.inr rfl)) (pss_cons (ps_set (i := 8) sc_law.nd rfl (by first | exact Or.inl rfl | exact Or.inr rfl) (C8.pe_c c__law_number hr (by decide) (by rfl) (pa_cons (pv 1) pa_nil))) (pss_cons (ps_set (i := 9) sc_law.nd rfl (by first | exact Or.inl rfl | exact Or.inr rfl) (C8.pe_c c__law_at hr (by decide) (by rfl) (pa_cons (pe_ix (ixL K) (pv 2) pe_int (fun _ _ => rfl)) (pa_cons (pe_ix (ixL K) (pv 2) pe_int (fun _ _ => rfl)) (pa_cons (pv 8) (pa_cons (pv 7) pa_nil)))))) (pss_cons (ps_set (i := 10) sc_law.nd rfl (by first | exact Or.inl rfl | exact Or.inr rfl) (C8.pe_mt m_Told_output hr (by decide) (pv 4) (pa_cons (pv 8) pa_nil))) (pss_cons (ps_if (PW.pt (pw_or (pt_cmpR (op_ne) (pv 10) (pv 9) (nomark _)) (pw_or1 (pt_val (pe_callB (isiK K) (by rfl) z_isinstance (by decide +kernel) (pa_cons (pv 10) (pa_cons (pe_bltn (by rfl) z_bool (by decide +kernel) (v := .ty "bool") rfl) pa_nil))))))) (pss_one (ps_ret pe_bl)) pss_nil) (pss_one (ps_for PassesOwn.never rfl (pi_range1 (by rfl) z_range (pa_cons pe_int pa_nil)) (pg_name (i := 11) sc_law.nd rfl (by first | exact Or.inl rfl | exact Or.inr rfl)) (pss_one (ps_if (PW.pt (pw_or (pt_cmpR (op_ne) (C8.pe_mt m_Machine_takes hr (by decide) (pe_ix (ixL K) (pv 6) (pv 11) (fun _ _ => rfl)) (pa_cons (pe_tup (pa_cons (pv 8) pa_nil)) pa_nil)) (pe_cmpR (op_eq) (pv 9) (pe_ix (ixL K) (pv 5) (pv 11) (fun _ _ => rfl)) (nomark _)) (nomark _)) (pw_or1 (pt_cmpR (op_ne) (pe_fd K (pe_ix (ixL K) (pv 6) (pv 11) (fun _ _ => rfl)) (by rfl)) pe_int (nomark _))))) (pss_one (ps_ret pe_bl)) pss_nil))))))))) (pss_one (ps_ret pe_bl)))))))))))))), ?_⟩
    walk_at "rd"
    refine ⟨a0, ns, rfl, hS, fun p q H1 sm1 hp0 hq0 hP1 => ⟨p, q, ns, rfl, hP1, fun r o t rs T outs H2 hB2 hP2 tok hT5 hr0 ho0 ht0 hro hrt h2r h2o h2t h2rows hrs => ?_⟩⟩
    have npr : r ≠ p := hP1.ne hr0
    have npo : o ≠ p := hP1.ne ho0
    have npt : t ≠ p := hP1.ne ht0
    have nprs : ∀ y ∈ rs, y ≠ p := fun y hy => hP1.ne (hrs y hy)
    refine ⟨r, rfl, _, SqL.of h2r, .ref o, atI_nat (j := 0) rfl, o, rfl, _, .inl (SqL.of h2o), fun g1 hg1 => ?_⟩
    have s3 : Same H2 (upd H2 g1 (.lst (outs.map V.int))) := same_upd hg1
    obtain ⟨H3, hH3⟩ : ∃ H3, H3 = upd H2 g1 (.lst (outs.map V.int)) := ⟨_, rfl⟩
    have h3g1 : H3 g1 = some (.lst (outs.map V.int)) := by rw [hH3, upd_same]
    rw [← hH3] at s3 ⊢
    refine ⟨r, rfl, _, SqL.of (s3 _ _ h2r), .ref t, atI_nat (j := 1) rfl, t, rfl, ⟨_, SqL.of (s3 _ _ h2t)⟩, fun D hD => ?_⟩
    refine lc_copy (s3 _ _ h2t) (h2rows.same s3) (by omega) hD (fun a r H N ha hN => ?_) ?_
    · walk_at "rd"
      exact ⟨_, .inl (SqL.of ha), fun L hL => hN L hL⟩
    intro H4 qs s4 h4D q4 n4
    refine ⟨by decide, fun G hG => ?_⟩
    obtain ⟨H5, hH5⟩ : ∃ H5, H5 = upd H4 G (.lst [.ref g1, .ref D]) := ⟨_, rfl⟩
    have s5 : Same H4 H5 := by rw [hH5]; exact same_upd hG
    have h5G : H5 G = some (.lst [.ref g1, .ref D]) := by rw [hH5, upd_same]
    rw [← hH5]
    have h5g1 : H5 g1 = some (.lst (outs.map V.int)) := s5 _ _ (s4 _ _ h3g1)
    have h5D : H5 D = some (.lst (qs.map V.ref)) := s5 _ _ h4D
    have q5 : RowsAt H5 qs T := q4.same s5
    have s25 : Same H2 H5 := (s3.trans s4).trans s5
    refine ⟨_, SqL.of h5G, .ref g1, atI_nat (j := 0) rfl, _, SqL.of h5G, .ref D, atI_nat (j := 1) rfl, fun x dx hx hdx hne => ?_⟩
    have hx2 : (upd H5 dx (.own x)) x = none := by rw [upd_ne hne.symm]; exact hx
    have t6 : Same H5 (upd (upd H5 dx (.own x)) x (.ins CT dx [])) := (same_upd hdx).trans (same_upd hx2)
    refine ⟨x, dx, g1, D, qs, T, outs, rfl, upd_same, t6 _ _ h5g1, t6 _ _ h5D, q5.same t6, tok, fun L H6 b6 wd6 fr6 => ⟨rfl, ?_⟩⟩
    have s6 : Same H5 H6 := same_of_but hx ((But.of t6).trans b6)
    have fL : ∀ a ∈ L, H5 a = none := fun a ha => by
      rcases fr6 a ha with rfl | e
      · exact hx
      · exact t6.free e
    have s26 := s25.trans s6
    have hP6 : Pool H6 p q ns := hP2.same s26
    have h6G := s6 _ _ h5G
    have h6g1 := s6 _ _ h5g1
    have h6D := s6 _ _ h5D
    have q6 : RowsAt H6 qs T := q5.same s6
    obtain ⟨σ0, hσ0⟩ : ∃ σ0, σ0 = [some (V.ref a0), some (.ref p), some (.ref r), some (.ref G), some (.ref x), none, none, none, none, none, none, none, none, none] := ⟨_, rfl⟩
    refine cut_by (fun σ' H' => σ0 = σ' ∧ H6 = H') (fun N hN => ?_) ?_
    · walk_at "rd"
      refine neD_of (d := .list [.list (outs.map intD), .list (T.map rowD)]) (.lst (SqL.of h6G) (.cons (.lst (SqL.of h6g1) (ints_dp outs)) (.cons (.lst (SqL.of h6D) (rows_dp q6)) .nil))) (.lst (SqL.of (s26 _ _ h2r)) (.cons (.lst (SqL.of (s26 _ _ h2o)) (ints_dp outs)) (.cons (.lst (SqL.of (s26 _ _ h2t)) (rows_dp (h2rows.same s26))) .nil))) (two_shaped _ _) ⟨false, rfl, ?_⟩
      rw [if_neg (by decide)]
      exact hN _ _ ⟨hσ0, rfl⟩
    rintro σ' H' ⟨rfl, rfl⟩
    rw [hσ0]
    · walk_at "rd"
      obtain ⟨o0, outs', rfl⟩ : ∃ o0 outs', outs = o0 :: outs' := by
        cases e : outs with
        | nil => have := tok.pos; have := tok.al; rw [e] at this; simp at this; omega
        | cons a b => exact ⟨a, b, rfl⟩
      obtain ⟨row0, T', rfl⟩ : ∃ row0 T', T = row0 :: T' := by
        cases e : T with
        | nil => have := tok.pos; rw [e] at this; simp at this
        | cons a b => exact ⟨a, b, rfl⟩
      obtain ⟨q0, qs', rfl⟩ : ∃ q0 qs', qs = q0 :: qs' := by
        cases e : qs with
        | nil => have := q6.len; rw [e] at this; simp at this
        | cons a b => exact ⟨a, b, rfl⟩
      obtain ⟨r0, row', rfl⟩ : ∃ r0 row', row0 = r0 :: row' := by
        obtain ⟨r', e1, e2, _⟩ := goodT_row tok.good (s := 0) tok.pos
        cases e1
        cases row0 with
        | nil => simp at e2
        | cons a b => exact ⟨a, b, rfl⟩
      have h6q0 : H6 q0 = some (.lst ((r0 :: row').map V.int)) := q6.at_ 0 q0 _ rfl rfl
      have old : ∀ y, H2 y ≠ none → y ≠ g1 ∧ y ≠ q0 ∧ y ≠ D := fun y hy => by
        obtain ⟨oy, ey⟩ : ∃ oy, H2 y = some oy := by
          cases e : H2 y with
          | none => exact absurd e hy
          | some oy => exact ⟨oy, rfl⟩
        refine ⟨ne_of_none ey hg1, ne_of_none (s3 _ _ ey) (n4 q0 (by simp)).1, ne_of_none (s3 _ _ ey) hD⟩
      have nDg : D ≠ g1 := (ne_of_none h3g1 hD).symm
      have nqg : q0 ≠ g1 := (ne_of_none h3g1 (n4 q0 (by simp)).1).symm
      have nqD : q0 ≠ D := (n4 q0 (by simp)).2
      have nGg : G ≠ g1 := (ne_of_none (s4 _ _ h3g1) hG).symm
      have nGD : G ≠ D := (ne_of_none h4D hG).symm
      have nGq : G ≠ q0 := (ne_of_none (q4.at_ 0 q0 _ rfl rfl) hG).symm
      refine ⟨_, SqL.of h6G, .ref g1, atI_nat (j := 0) rfl, g1, rfl, _, SqL.of h6g1, .int o0, atI_nat (j := 0) rfl, _, rfl, _, SqL.of h6G, .ref g1, atI_nat (j := 0) rfl, ?_⟩
      refine setL_of (j := 0) h6g1 (Nat.succ_pos _) ?_
      obtain ⟨H7, hH7⟩ : ∃ H7, H7 = upd H6 g1 (.lst (((o0 :: outs').map V.int).set 0 (.int (9 - o0)))) := ⟨_, rfl⟩
      have b7 : But g1 H6 H7 := hH7 ▸ But.upd
      have h7g1 : H7 g1 = some (.lst (((o0 :: outs').map V.int).set 0 (.int (9 - o0)))) := by rw [hH7, upd_same]
      rw [← hH7]
      have h7G := b7 _ _ nGg h6G
      have h7D := b7 _ _ nDg h6D
      have h7q0 := b7 _ _ nqg h6q0
      refine ⟨_, SqL.of h7G, .ref g1, atI_nat (j := 0) rfl, g1, rfl, _, .inl (SqL.of h7g1), _, SqL.of h7G, .ref D, atI_nat (j := 1) rfl, D, rfl, _, SqL.of h7D, .ref q0, atI_nat (j := 0) rfl, q0, rfl, _, SqL.of h7q0, .int r0, atI_nat (j := 0) rfl, _, rfl, _, SqL.of h7G, .ref D, atI_nat (j := 1) rfl, D, rfl, _, SqL.of h7D, .ref q0, atI_nat (j := 0) rfl, ?_⟩
      refine setL_of (j := 0) h7q0 (Nat.succ_pos _) ?_
      obtain ⟨H8, hH8⟩ : ∃ H8, H8 = upd H7 q0 (.lst (((r0 :: row').map V.int).set 0 (.int (((((o0 :: outs').map V.int).set 0 (.int (9 - o0))).length : Nat) - 1 - r0)))) := ⟨_, rfl⟩
      have b8 : But q0 H7 H8 := hH8 ▸ But.upd
      rw [← hH8]
      have h8G := b8 _ _ nGq h7G
      have h8D := b8 _ _ nqD.symm h7D
      obtain ⟨σ1, hσ1⟩ : ∃ σ1, σ1 = σ0 := ⟨_, rfl⟩
      refine cut_by (fun σ' H' => σ0 = σ' ∧ St0 CT p q ns r o t rs (((r0 :: row') :: T')) (o0 :: outs') L x H') (fun N hN => ?_) ?_
      · walk_at "rd"
        refine ⟨_, SqL.of h8G, .ref D, atI_nat (j := 1) rfl, tyL h8D, by decide, fun W hW => ⟨D, rfl, _, (same_upd hW) _ _ h8D, ?_, ?_⟩⟩
        · rw [List.length_map, q6.len]
          exact smallt (by omega)
        obtain ⟨HF, hHF⟩ : ∃ HF, HF = upd (upd H8 W (.lst [V.int 0, V.int 0])) D (.lst ((q0 :: qs').map V.ref ++ [V.ref W])) := ⟨_, rfl⟩
        have bF : But D H8 HF := hHF ▸ (But.of (same_upd hW)).trans But.upd
        have carry : ∀ y oy, H2 y = some oy → HF y = some oy := fun y oy ey => by
          obtain ⟨n1, n2, n3⟩ := old y (by rw [ey]; exact fun z => nomatch z)
          exact bF _ _ n3 (b8 _ _ n2 (b7 _ _ n1 (s26 _ _ ey)))
        rw [← hHF]
        have h5q0 : H5 q0 = some (.lst ((r0 :: row').map V.int)) := q5.at_ 0 q0 _ rfl rfl
        refine hN _ _ ⟨hσ0, ?_, carry _ _ h2r, carry _ _ h2o, carry _ _ h2t, ⟨h2rows.len, fun i a r' e1 e2 => carry _ _ (h2rows.at_ i a r' e1 e2)⟩, ((wd6.but b7 (notin_of fL h5g1)).but b8 (notin_of fL h5q0)).but bF (notin_of fL h5D), npr, npo, npt, nprs, ?_⟩
        · obtain ⟨hne, hq, a, k, hp, c0, c1⟩ := hP2
          exact ⟨hne, carry _ _ hq, a, k, carry _ _ hp, c0, c1⟩
        · obtain ⟨hne, hq, a, k, hp, c0, c1⟩ := hP2
          exact notin_of fL (s25 _ _ hp)
      rintro σ' H9 ⟨rfl, S9⟩
      rw [hσ0]
      obtain ⟨outs, houts⟩ : ∃ outs, outs = o0 :: outs' := ⟨_, rfl⟩
      obtain ⟨T, hTT⟩ : ∃ T, T = (r0 :: row') :: T' := ⟨_, rfl⟩
      rw [← houts, ← hTT] at S9
      obtain ⟨σ2, hσ2⟩ : ∃ σ2, σ2 = [some (V.ref a0), some (.ref p), some (.ref r), some (.ref G), some (.ref x), none, none, none, none, none, none, none, none, none] := ⟨_, rfl⟩
      refine cut_by (fun σ' H' => σ2 = σ' ∧ St0 CT p q ns r o t rs T outs L x H') (fun N hN => ?_) ?_
      · obtain ⟨dw, wo, wt, wr, hL, w1, w2, w3, w4⟩ := S9.word
        walk_at "rd"
        refine fld_of c_T t_outputs w1 (tf_o _ _) ⟨_, SqL.of S9.hr, .ref o, atI_nat (j := 0) rfl, ?_⟩
        refine neD_of (.lst (SqL.of w2) (ints_dp outs)) (.lst (SqL.of S9.ho) (ints_dp outs)) (ints_shaped _) ⟨false, rfl, ?_⟩
        rw [if_neg (by decide)]
        refine fld_of c_T t_table w1 (tf_t _ _) ⟨_, SqL.of S9.hr, .ref t, atI_nat (j := 1) rfl, ?_⟩
        refine neD_of (.lst (SqL.of w3) (rows_dp w4)) (.lst (SqL.of S9.ht) (rows_dp S9.rows)) (rows_shaped _) ⟨false, rfl, ?_⟩
        rw [if_neg (by decide)]
        exact hN _ _ ⟨hσ2, S9⟩
      rintro σ' H10 ⟨rfl, S10⟩
      rw [hσ2]
      have tok' : TOk T outs := by rw [hTT, houts]; exact tok
      obtain ⟨oi, ol, eol⟩ : ∃ oi ol, outs = oi ++ [ol] := ⟨outs.dropLast, outs.getLast (by rw [houts]; simp), (List.dropLast_concat_getLast _).symm⟩
      have e0 : outs[0]? = some o0 := by rw [houts]; rfl
      walk_at "rd"
      refine ⟨_, SqL.of S10.hr, .ref o, atI_nat (j := 0) rfl, o, rfl, _, SqL.of S10.ho, .int o0, at_map (i := 0) e0, _, SqL.of S10.hr, .ref o, atI_nat (j := 0) rfl, o, rfl, _, SqL.of S10.ho, .int ol, by rw [eol, List.map_append]; exact atI_last _ _, ?_⟩
      refine ⟨p, q, ns, 10, rfl, S10.pool, by decide, by decide, fun v H11 v0 v1 b11 P11 => ⟨by decide, fun OL hOL => ?_⟩⟩
      obtain ⟨os, hos⟩ : ∃ os, os = [o0, ol, v, 9] := ⟨_, rfl⟩
      have eos : [V.int o0, .int ol, .int v, .int 9] = os.map V.int := by rw [hos]; rfl
      rw [eos]
      have S11 := S10.but b11 P11
      have S12 := S11.same (same_upd (o := .lst (os.map V.int)) hOL)
      have nOLp : OL ≠ p := P11.ne hOL
      obtain ⟨H12, hH12⟩ : ∃ H12, H12 = upd H11 OL (.lst (os.map V.int)) := ⟨_, rfl⟩
      have h12OL : H12 OL = some (.lst (os.map V.int)) := by rw [hH12, upd_same]
      rw [← hH12] at S12 ⊢
      have los : os.length = 4 := by rw [hos]; rfl
      refine ⟨⟨_, SqL.of h12OL⟩, fun D2 hD2 => ?_⟩
      have nDp : D2 ≠ p := S12.pool.ne hD2
      refine lc_listN (xs := os.map V.int) (fun i H => ∃ ms : List Addr, ms.length = i ∧ H D2 = some (.lst (ms.map V.ref)) ∧ Same H12 H ∧ ∀ (j : Nat) (m : Addr) (o' : Int), ms[j]? = some m → os[j]? = some o' → ∃ A, MachP CM H A m 1 T (outs.map fun x => decide (x = o')) ∧ D2 ∉ A ∧ p ∉ A) ?_ ?_ ?_ ?_
      · exact ⟨[], rfl, upd_same, same_upd hD2, fun j m o' z => by simp at z⟩
      · rintro i H _ ⟨ms, _, _, sH, _⟩
        exact SqL.of (sH _ _ h12OL)
      · rintro i xv H N hxv ⟨ms, hlm, hm, sH, hmach⟩ hN
        rw [List.getElem?_map] at hxv
        obtain ⟨o', ho', rfl⟩ := Option.map_eq_some_iff.mp hxv
        have SH := S12.same sH
        obtain ⟨dw, wo, wt, wr, hL, w1, w2, w3, w4⟩ := SH.word
        walk_at "rd"
        have hi4 : i < 4 := by
          have := (List.getElem?_eq_some_iff.mp ho').1
          omega
        refine ⟨_, _, w1, tf_no _ _ (by decide +kernel) (by decide +kernel), x, L, T, outs, o', rfl, SH.word, tok', fun m A H' s' fr mp => ⟨_, s' _ _ hm, by rw [List.length_map, hlm]; exact smallt (by omega), hN _ ⟨ms ++ [m], by rw [List.length_append, hlm]; rfl, ?_, Dw.Same.new (sH.trans s') hD2, fun j m' o'' e1 e2 => ?_⟩⟩⟩
        · rw [upd_same, List.map_append]
          rfl
        · by_cases hj : j < ms.length
          · rw [List.getElem?_append_left hj] at e1
            obtain ⟨A', mp', n1, n2⟩ := hmach j m' o'' e1 e2
            exact ⟨A', (mp'.same s').but But.upd n1, n1, n2⟩
          · have hji : j = i := by
              have := (List.getElem?_eq_some_iff.mp e1).1
              rw [List.length_append, List.length_singleton] at this
              omega
            subst hji
            rw [List.getElem?_append_right (by omega), hlm, Nat.sub_self] at e1
            cases e1
            rw [ho'] at e2
            cases e2
            refine ⟨A, mp.but But.upd (notin_of fr hm), notin_of fr hm, ?_⟩
            obtain ⟨_, _, a, k, hp, _⟩ := SH.pool
            exact notin_of fr hp
      rintro H13 ⟨ms, hlm, h13m, s13, hmach⟩
      rw [List.length_map, los] at hlm
      have S13 := S12.same s13
      have h13OL := s13 _ _ h12OL
      obtain ⟨Inv, hInv⟩ : ∃ Inv : Hp → Prop, Inv = fun H => St0 CT p q ns r o t rs T outs L x H ∧ H OL = some (.lst (os.map V.int)) ∧ H D2 = some (.lst (ms.map V.ref)) ∧ ∀ (j : Nat) (m : Addr) (o' : Int), ms[j]? = some m → os[j]? = some o' → ∃ A, MachP CM H A m 1 T (outs.map fun x => decide (x = o')) ∧ p ∉ A := ⟨_, rfl⟩
      have inv13 : Inv H13 := by
        rw [hInv]
        refine ⟨S13, h13OL, h13m, fun j m o' e1 e2 => ?_⟩
        obtain ⟨A, mp, _, n2⟩ := hmach j m o' e1 e2
        exact ⟨A, mp, n2⟩
      have invS : ∀ {H H'}, Inv H → Same H H' → Inv H' := fun {H H'} h s => by
        rw [hInv] at h ⊢
        obtain ⟨a, b, c, d⟩ := h
        refine ⟨a.same s, s _ _ b, s _ _ c, fun j m o' e1 e2 => ?_⟩
        obtain ⟨A, mp, n2⟩ := d j m o' e1 e2
        exact ⟨A, mp.same s, n2⟩
      have invB : ∀ {H H'}, Inv H → But p H H' → Pool H' p q ns → Inv H' := fun {H H'} h s P => by
        rw [hInv] at h ⊢
        obtain ⟨a, b, c, d⟩ := h
        refine ⟨a.but s P, s _ _ nOLp b, s _ _ nDp c, fun j m o' e1 e2 => ?_⟩
        obtain ⟨A, mp, n2⟩ := d j m o' e1 e2
        exact ⟨A, mp.but s n2, n2⟩
      refine ⟨by decide, by decide, ?_⟩
      refine for_rangeN (fun i σ H => (∃ u7 u8 u9 u10 u11, σ = [some (V.ref a0), some (.ref p), some (.ref r), some (.ref G), some (.ref x), some (.ref OL), some (.ref D2), u7, u8, u9, u10, u11, none, none]) ∧ Inv H) ?_ ?_ ?_
      · exact ⟨⟨_, _, _, _, _, rfl⟩, inv13⟩
      · rintro i σ H N hi ⟨⟨u7, u8, u9, u10, u11, rfl⟩, iH⟩ hN
        have iH0 := iH
        rw [hInv] at iH0
        obtain ⟨SH, hOLH, hDH, hmach⟩ := iH0
        walk_at "rd"
        refine ⟨p, q, ns, rfl, SH.pool, fun n H14 hn14 b14 P14 => ?_⟩
        have i14 := invB iH b14 P14
        have i14' := i14
        rw [hInv] at i14'
        obtain ⟨S14, _, _, _⟩ := i14'
        obtain ⟨dw, wo, wt, wr, hL, w1, w2, w3, w4⟩ := S14.word
        refine ⟨_, SqL.of S14.hr, .ref o, atI_nat (j := 0) rfl, _, SqL.of S14.hr, .ref t, atI_nat (j := 1) rfl, o, t, rs, T, outs, n, i, rfl, S14.ho, S14.ht, S14.rows, tok', Nat.lt_of_lt_of_le hn14 (Nat.pow_le_pow_right (by decide) (by decide)), by omega, ?_⟩
        refine ⟨_, _, w1, tf_no _ _ (by decide +kernel) (by decide +kernel), x, L, T, outs, n, rfl, S14.word, tok', rfl, ?_⟩
        rw [if_pos rfl]
        refine isi_of (.base (.int _)) (kit_ty (by decide +kernel) : _ = some false) ⟨false, rfl, ?_⟩
        rw [if_neg (by decide)]
        refine ⟨by decide, by decide, ?_⟩
        refine for_rangeN (fun j σ H => (∃ u11, σ = [some (V.ref a0), some (.ref p), some (.ref r), some (.ref G), some (.ref x), some (.ref OL), some (.ref D2), some (.int (i : Nat)), some (nv n), some (.int (outOf T outs n)), some (.int (outOf T outs n)), u11, none, none]) ∧ Inv H) ?_ ?_ ?_
        · exact ⟨⟨_, rfl⟩, i14⟩
        · rintro j σ H N2 hj ⟨⟨u11, rfl⟩, iH2⟩ hN2
          have hj4 : j < 4 := hj
          have iH2' := iH2
          rw [hInv] at iH2'
          obtain ⟨SJ, jOL, jD, jm⟩ := iH2'
          obtain ⟨m, hm⟩ : ∃ m, ms[j]? = some m := ⟨ms[j], List.getElem?_eq_getElem (by omega)⟩
          obtain ⟨o', ho'⟩ : ∃ o', os[j]? = some o' := ⟨os[j], List.getElem?_eq_getElem (by omega)⟩
          obtain ⟨A, mp, npA⟩ := jm j m o' hm ho'
          obtain ⟨dm, mt, mb, mrs, m1, m2, m3, m4⟩ := mp.at_.ex
          walk_at "rd"
          refine ⟨_, SqL.of jD, .ref m, at_map hm, ?_⟩
          refine ⟨m, rfl, _, _, m1, mf_no _ _ _ (by decide +kernel) (by decide +kernel) (by decide +kernel), by decide, fun U hU => ?_⟩
          refine ⟨m, U, 1, T, _, [n], rfl, mp.at_.same (same_upd hU), tok'.mach o', SqT.of upd_same, rfl, fun y hy => ?_, fun H' s' => ?_⟩
          · rw [List.mem_singleton.mp hy]
            exact Nat.lt_of_lt_of_le hn14 (Nat.pow_le_pow_right (by decide) (by decide))
          have sU := (same_upd (o := .tup [nv n]) hU).trans s'
          refine ⟨_, SqL.of (sU _ _ jOL), .int o', at_map ho', rfl, rfl, ?_⟩
          have e1 : V.bl ((outs.map fun x => decide (x = o')).getD (runT T 0 (wd [n])) false) = V.bl (decide (V.int (outOf T outs n) = V.int o')) := by
            rw [tok'.acc]
            exact congrArg V.bl (decide_eq_decide.mpr ⟨fun h => by rw [h], V.int.inj⟩)
          rw [if_pos e1]
          refine ⟨_, SqL.of (sU _ _ jD), .ref m, at_map hm, fld_of c_M n_width (sU _ _ m1) (mf_w _ _ _) ⟨rfl, ?_⟩⟩
          rw [if_pos (show nv 1 = V.int 1 from rfl)]
          exact hN2 _ _ ⟨⟨_, rfl⟩, invS iH2 sU⟩
        · rintro σ H ⟨⟨u11, rfl⟩, iH2⟩
          exact hN _ _ ⟨⟨_, _, _, _, _, rfl⟩, iH2⟩
      · rintro σ H ⟨⟨u7, u8, u9, u10, u11, rfl⟩, iH⟩
        walk_at "rd"
        exact ok _

end
theorem all_mk {l : PySem.W.OpenLaw} {w : World} {K : PySem.W.Frag} {h : Heap} {mg : Str → Option Value} {fa : Addr} (X : K.In h) (G : h.Ns mainGlobals mg) (hfa : mg "law" = some (.ref fa))
    {CM : Addr}
    {CT : Addr}
    {f0 : Addr} {od0 an0 : Option Addr} {sl0 : Array (Option Value)} {oc0 kV0 dc0 pm0 cd0 ct0 : Value}
    {f1 : Addr} {od1 an1 : Option Addr} {sl1 : Array (Option Value)} {oc1 kV1 dc1 pm1 cd1 ct1 : Value}
    {f2 : Addr} {od2 an2 : Option Addr} {sl2 : Array (Option Value)} {oc2 kV2 dc2 pm2 cd2 ct2 : Value}
    {f3 : Addr} {od3 an3 : Option Addr} {sl3 : Array (Option Value)} {oc3 kV3 dc3 pm3 cd3 ct3 : Value}
    {f4 : Addr} {od4 an4 : Option Addr} {sl4 : Array (Option Value)} {oc4 kV4 dc4 pm4 cd4 ct4 : Value}
    {f5 : Addr} {od5 an5 : Option Addr} {sl5 : Array (Option Value)} {oc5 kV5 dc5 pm5 cd5 ct5 : Value}
    {f6 : Addr} {od6 an6 : Option Addr} {sl6 : Array (Option Value)} {oc6 kV6 dc6 pm6 cd6 ct6 : Value}
    {f7 : Addr} {od7 an7 : Option Addr} {sl7 : Array (Option Value)} {oc7 kV7 dc7 pm7 cd7 ct7 : Value}
    {f8 : Addr} {od8 an8 : Option Addr} {sl8 : Array (Option Value)} {oc8 kV8 dc8 pm8 cd8 ct8 : Value}
    {f9 : Addr} {od9 an9 : Option Addr} {sl9 : Array (Option Value)} {oc9 kV9 dc9 pm9 cd9 ct9 : Value}
    {f10 : Addr} {od10 an10 : Option Addr} {sl10 : Array (Option Value)} {oc10 kV10 dc10 pm10 cd10 ct10 : Value}
    {f11 : Addr} {od11 an11 : Option Addr} {sl11 : Array (Option Value)} {oc11 kV11 dc11 pm11 cd11 ct11 : Value}
    {f12 : Addr} {od12 an12 : Option Addr} {sl12 : Array (Option Value)} {oc12 kV12 dc12 pm12 cd12 ct12 : Value}
    {f13 : Addr} {od13 an13 : Option Addr} {sl13 : Array (Option Value)} {oc13 kV13 dc13 pm13 cd13 ct13 : Value}
    {f14 : Addr} {od14 an14 : Option Addr} {sl14 : Array (Option Value)} {oc14 kV14 dc14 pm14 cd14 ct14 : Value}
    {f15 : Addr} {od15 an15 : Option Addr} {sl15 : Array (Option Value)} {oc15 kV15 dc15 pm15 cd15 ct15 : Value}
    {f16 : Addr} {od16 an16 : Option Addr} {sl16 : Array (Option Value)} {oc16 kV16 dc16 pm16 cd16 ct16 : Value}
    {f17 : Addr} {od17 an17 : Option Addr} {sl17 : Array (Option Value)} {oc17 kV17 dc17 pm17 cd17 ct17 : Value}
    {f18 : Addr} {od18 an18 : Option Addr} {sl18 : Array (Option Value)} {oc18 kV18 dc18 pm18 cd18 ct18 : Value}
    {f19 : Addr} {od19 an19 : Option Addr} {sl19 : Array (Option Value)} {oc19 kV19 dc19 pm19 cd19 ct19 : Value}
    {f20 : Addr} {od20 an20 : Option Addr} {sl20 : Array (Option Value)} {oc20 kV20 dc20 pm20 cd20 ct20 : Value}
    {f21 : Addr} {od21 an21 : Option Addr} {sl21 : Array (Option Value)} {oc21 kV21 dc21 pm21 cd21 ct21 : Value}
    {t_STATES : Tok}
    {t_TRACKS : Tok}
    {t_OUTPUT_LIMIT : Tok}
    {t_TOLD_STATES : Tok}
    (aC_Machine : PySem.W.nsIn K mainGlobals "Machine" = some (some (.ref CM))) (pg_Machine : PySem.W.plainGet K CM Str.empty = true) (hd_Machine : PySem.W.hasDictIn K CM = true) (po_Machine : PySem.W.plainOver K CM = true) (sa_Machine : PySem.W.findIn K (.ref CM) "__setattr__" = some (some (.builtin "object.__setattr__"))) (mk_Machine : PySem.W.makesIn K CM = true) (kc_Machine : PySem.W.keepIn K (.ref CM) = true) (no0_Machine : PySem.W.findIn K (.ref CM) "width" = some none) (no1_Machine : PySem.W.findIn K (.ref CM) "table" = some none) (no2_Machine : PySem.W.findIn K (.ref CM) "accepting" = some none)
    (aC_Told : PySem.W.nsIn K mainGlobals "Told" = some (some (.ref CT))) (pg_Told : PySem.W.plainGet K CT Str.empty = true) (hd_Told : PySem.W.hasDictIn K CT = true) (po_Told : PySem.W.plainOver K CT = true) (sa_Told : PySem.W.findIn K (.ref CT) "__setattr__" = some (some (.builtin "object.__setattr__"))) (mk_Told : PySem.W.makesIn K CT = true) (kc_Told : PySem.W.keepIn K (.ref CT) = true) (no0_Told : PySem.W.findIn K (.ref CT) "outputs" = some none) (no1_Told : PySem.W.findIn K (.ref CT) "table" = some none)
    (a0 : PySem.W.nsIn K mainGlobals "letters" = some (some (.ref f0))) (l0 : K.lookup f0 = some ⟨oc0, od0, .func (PySem.W.fnOf "letters" "letters" (C8.fnArgs s_letters) (C8.fnBody s_letters) (C8.fnScope s_letters) .none kV0 dc0 pm0 an0 cd0 ct0), sl0⟩) (c0 : PySem.W.codeIn K cd0 "letters" = true) (k0 : PySem.W.keepIn K (.ref f0) = true)
    (a1 : PySem.W.nsIn K mainGlobals "digit" = some (some (.ref f1))) (l1 : K.lookup f1 = some ⟨oc1, od1, .func (PySem.W.fnOf "digit" "digit" (C8.fnArgs s_digit) (C8.fnBody s_digit) (C8.fnScope s_digit) .none kV1 dc1 pm1 an1 cd1 ct1), sl1⟩) (c1 : PySem.W.codeIn K cd1 "digit" = true) (k1 : PySem.W.keepIn K (.ref f1) = true)
    (a2 : PySem.W.nsIn K mainGlobals "letter_of" = some (some (.ref f2))) (l2 : K.lookup f2 = some ⟨oc2, od2, .func (PySem.W.fnOf "letter_of" "letter_of" (C8.fnArgs s_letter_of) (C8.fnBody s_letter_of) (C8.fnScope s_letter_of) .none kV2 dc2 pm2 an2 cd2 ct2), sl2⟩) (c2 : PySem.W.codeIn K cd2 "letter_of" = true) (k2 : PySem.W.keepIn K (.ref f2) = true)
    (a3 : PySem.W.nsIn K mainGlobals "word_of" = some (some (.ref f3))) (l3 : K.lookup f3 = some ⟨oc3, od3, .func (PySem.W.fnOf "word_of" "word_of" (C8.fnArgs s_word_of) (C8.fnBody s_word_of) (C8.fnScope s_word_of) .none kV3 dc3 pm3 an3 cd3 ct3), sl3⟩) (c3 : PySem.W.codeIn K cd3 "word_of" = true) (k3 : PySem.W.keepIn K (.ref f3) = true)
    (a4 : PySem.W.nsIn K mainGlobals "is_state" = some (some (.ref f4))) (l4 : K.lookup f4 = some ⟨oc4, od4, .func (PySem.W.fnOf "is_state" "is_state" (C8.fnArgs s_is_state) (C8.fnBody s_is_state) (C8.fnScope s_is_state) .none kV4 dc4 pm4 an4 cd4 ct4), sl4⟩) (c4 : PySem.W.codeIn K cd4 "is_state" = true) (k4 : PySem.W.keepIn K (.ref f4) = true)
    (a5 : PySem.W.nsIn K mainGlobals "is_table" = some (some (.ref f5))) (l5 : K.lookup f5 = some ⟨oc5, od5, .func (PySem.W.fnOf "is_table" "is_table" (C8.fnArgs s_is_table) (C8.fnBody s_is_table) (C8.fnScope s_is_table) .none kV5 dc5 pm5 an5 cd5 ct5), sl5⟩) (c5 : PySem.W.codeIn K cd5 "is_table" = true) (k5 : PySem.W.keepIn K (.ref f5) = true)
    (a6 : PySem.W.nsIn K mainGlobals "check_width" = some (some (.ref f6))) (l6 : K.lookup f6 = some ⟨oc6, od6, .func (PySem.W.fnOf "check_width" "check_width" (C8.fnArgs s_check_width) (C8.fnBody s_check_width) (C8.fnScope s_check_width) .none kV6 dc6 pm6 an6 cd6 ct6), sl6⟩) (c6 : PySem.W.codeIn K cd6 "check_width" = true) (k6 : PySem.W.keepIn K (.ref f6) = true)
    (a7 : PySem.W.findIn K (.ref CM) "__init__" = some (some (.ref f7))) (i7 : PySem.W.isFn K (.ref f7) = true) (l7 : K.lookup f7 = some ⟨oc7, od7, .func (PySem.W.fnOf "__init__" "Machine.__init__" (C8.fnArgs s_Machine___init__) (C8.fnBody s_Machine___init__) (C8.fnScope s_Machine___init__) .none kV7 dc7 pm7 an7 cd7 ct7), sl7⟩) (c7 : PySem.W.codeIn K cd7 "Machine.__init__" = true) (k7 : PySem.W.keepIn K (.ref f7) = true)
    (a8 : PySem.W.findIn K (.ref CM) "behind" = some (some (.ref f8))) (i8 : PySem.W.isFn K (.ref f8) = true) (l8 : K.lookup f8 = some ⟨oc8, od8, .func (PySem.W.fnOf "behind" "Machine.behind" (C8.fnArgs s_Machine_behind) (C8.fnBody s_Machine_behind) (C8.fnScope s_Machine_behind) .none kV8 dc8 pm8 an8 cd8 ct8), sl8⟩) (c8 : PySem.W.codeIn K cd8 "Machine.behind" = true) (k8 : PySem.W.keepIn K (.ref f8) = true)
    (a9 : PySem.W.findIn K (.ref CM) "accepts" = some (some (.ref f9))) (i9 : PySem.W.isFn K (.ref f9) = true) (l9 : K.lookup f9 = some ⟨oc9, od9, .func (PySem.W.fnOf "accepts" "Machine.accepts" (C8.fnArgs s_Machine_accepts) (C8.fnBody s_Machine_accepts) (C8.fnScope s_Machine_accepts) .none kV9 dc9 pm9 an9 cd9 ct9), sl9⟩) (c9 : PySem.W.codeIn K cd9 "Machine.accepts" = true) (k9 : PySem.W.keepIn K (.ref f9) = true)
    (a10 : PySem.W.findIn K (.ref CM) "takes" = some (some (.ref f10))) (i10 : PySem.W.isFn K (.ref f10) = true) (l10 : K.lookup f10 = some ⟨oc10, od10, .func (PySem.W.fnOf "takes" "Machine.takes" (C8.fnArgs s_Machine_takes) (C8.fnBody s_Machine_takes) (C8.fnScope s_Machine_takes) .none kV10 dc10 pm10 an10 cd10 ct10), sl10⟩) (c10 : PySem.W.codeIn K cd10 "Machine.takes" = true) (k10 : PySem.W.keepIn K (.ref f10) = true)
    (a11 : PySem.W.nsIn K mainGlobals "_law_wide" = some (some (.ref f11))) (l11 : K.lookup f11 = some ⟨oc11, od11, .func (PySem.W.fnOf "_law_wide" "_law_wide" (C8.fnArgs s__law_wide) (C8.fnBody s__law_wide) (C8.fnScope s__law_wide) .none kV11 dc11 pm11 an11 cd11 ct11), sl11⟩) (c11 : PySem.W.codeIn K cd11 "_law_wide" = true) (k11 : PySem.W.keepIn K (.ref f11) = true)
    (a12 : PySem.W.nsIn K mainGlobals "_law_take" = some (some (.ref f12))) (l12 : K.lookup f12 = some ⟨oc12, od12, .func (PySem.W.fnOf "_law_take" "_law_take" (C8.fnArgs s__law_take) (C8.fnBody s__law_take) (C8.fnScope s__law_take) .none kV12 dc12 pm12 an12 cd12 ct12), sl12⟩) (c12 : PySem.W.codeIn K cd12 "_law_take" = true) (k12 : PySem.W.keepIn K (.ref f12) = true)
    (a13 : PySem.W.nsIn K mainGlobals "_law_pool" = some (some (.ref f13))) (l13 : K.lookup f13 = some ⟨oc13, od13, .func (PySem.W.fnOf "_law_pool" "_law_pool" (C8.fnArgs s__law_pool) (C8.fnBody s__law_pool) (C8.fnScope s__law_pool) .none kV13 dc13 pm13 an13 cd13 ct13), sl13⟩) (c13 : PySem.W.codeIn K cd13 "_law_pool" = true) (k13 : PySem.W.keepIn K (.ref f13) = true)
    (a14 : PySem.W.nsIn K mainGlobals "_law_number" = some (some (.ref f14))) (l14 : K.lookup f14 = some ⟨oc14, od14, .func (PySem.W.fnOf "_law_number" "_law_number" (C8.fnArgs s__law_number) (C8.fnBody s__law_number) (C8.fnScope s__law_number) .none kV14 dc14 pm14 an14 cd14 ct14), sl14⟩) (c14 : PySem.W.codeIn K cd14 "_law_number" = true) (k14 : PySem.W.keepIn K (.ref f14) = true)
    (a15 : PySem.W.nsIn K mainGlobals "_law_told_states" = some (some (.ref f15))) (l15 : K.lookup f15 = some ⟨oc15, od15, .func (PySem.W.fnOf "_law_told_states" "_law_told_states" (C8.fnArgs s__law_told_states) (C8.fnBody s__law_told_states) (C8.fnScope s__law_told_states) .none kV15 dc15 pm15 an15 cd15 ct15), sl15⟩) (c15 : PySem.W.codeIn K cd15 "_law_told_states" = true) (k15 : PySem.W.keepIn K (.ref f15) = true)
    (a16 : PySem.W.nsIn K mainGlobals "is_output" = some (some (.ref f16))) (l16 : K.lookup f16 = some ⟨oc16, od16, .func (PySem.W.fnOf "is_output" "is_output" (C8.fnArgs s_is_output) (C8.fnBody s_is_output) (C8.fnScope s_is_output) .none kV16 dc16 pm16 an16 cd16 ct16), sl16⟩) (c16 : PySem.W.codeIn K cd16 "is_output" = true) (k16 : PySem.W.keepIn K (.ref f16) = true)
    (a17 : PySem.W.findIn K (.ref CT) "__init__" = some (some (.ref f17))) (i17 : PySem.W.isFn K (.ref f17) = true) (l17 : K.lookup f17 = some ⟨oc17, od17, .func (PySem.W.fnOf "__init__" "Told.__init__" (C8.fnArgs s_Told___init__) (C8.fnBody s_Told___init__) (C8.fnScope s_Told___init__) .none kV17 dc17 pm17 an17 cd17 ct17), sl17⟩) (c17 : PySem.W.codeIn K cd17 "Told.__init__" = true) (k17 : PySem.W.keepIn K (.ref f17) = true)
    (a18 : PySem.W.findIn K (.ref CT) "output" = some (some (.ref f18))) (i18 : PySem.W.isFn K (.ref f18) = true) (l18 : K.lookup f18 = some ⟨oc18, od18, .func (PySem.W.fnOf "output" "Told.output" (C8.fnArgs s_Told_output) (C8.fnBody s_Told_output) (C8.fnScope s_Told_output) .none kV18 dc18 pm18 an18 cd18 ct18), sl18⟩) (c18 : PySem.W.codeIn K cd18 "Told.output" = true) (k18 : PySem.W.keepIn K (.ref f18) = true)
    (a19 : PySem.W.findIn K (.ref CT) "machine" = some (some (.ref f19))) (i19 : PySem.W.isFn K (.ref f19) = true) (l19 : K.lookup f19 = some ⟨oc19, od19, .func (PySem.W.fnOf "machine" "Told.machine" (C8.fnArgs s_Told_machine) (C8.fnBody s_Told_machine) (C8.fnScope s_Told_machine) .none kV19 dc19 pm19 an19 cd19 ct19), sl19⟩) (c19 : PySem.W.codeIn K cd19 "Told.machine" = true) (k19 : PySem.W.keepIn K (.ref f19) = true)
    (a20 : PySem.W.nsIn K mainGlobals "_law_at" = some (some (.ref f20))) (l20 : K.lookup f20 = some ⟨oc20, od20, .func (PySem.W.fnOf "_law_at" "_law_at" (C8.fnArgs s__law_at) (C8.fnBody s__law_at) (C8.fnScope s__law_at) .none kV20 dc20 pm20 an20 cd20 ct20), sl20⟩) (c20 : PySem.W.codeIn K cd20 "_law_at" = true) (k20 : PySem.W.keepIn K (.ref f20) = true)
    (a21 : PySem.W.nsIn K mainGlobals "law" = some (some (.ref f21))) (l21 : K.lookup f21 = some ⟨oc21, od21, .func (PySem.W.fnOf "law" "law" (C8.fnArgs s_law) (C8.fnBody s_law) (C8.fnScope s_law) .none kV21 dc21 pm21 an21 cd21 ct21), sl21⟩) (c21 : PySem.W.codeIn K cd21 "law" = true) (k21 : PySem.W.keepIn K (.ref f21) = true)
    (zz_len : PySem.W.nsIn K mainGlobals "len" = some none)
    (zz_abs : PySem.W.nsIn K mainGlobals "abs" = some none)
    (zz_int : PySem.W.nsIn K mainGlobals "int" = some none)
    (zz_list : PySem.W.nsIn K mainGlobals "list" = some none)
    (zz_range : PySem.W.nsIn K mainGlobals "range" = some none)
    (zz_isinstance : PySem.W.nsIn K mainGlobals "isinstance" = some none)
    (zz_bool : PySem.W.nsIn K mainGlobals "bool" = some none)
    (zz_max : PySem.W.nsIn K mainGlobals "max" = some none)
    (zz_min : PySem.W.nsIn K mainGlobals "min" = some none)
    (zz_sum : PySem.W.nsIn K mainGlobals "sum" = some none)
    (zz_enumerate : PySem.W.nsIn K mainGlobals "enumerate" = some none)
    (zz_all : PySem.W.nsIn K mainGlobals "all" = some none)
    (gg_STATES : PySem.W.nsIn K mainGlobals "STATES" = some (some (.int 400 t_STATES)))
    (gg_TRACKS : PySem.W.nsIn K mainGlobals "TRACKS" = some (some (.int 6 t_TRACKS)))
    (gg_OUTPUT_LIMIT : PySem.W.nsIn K mainGlobals "OUTPUT_LIMIT" = some (some (.int 9 t_OUTPUT_LIMIT)))
    (gg_TOLD_STATES : PySem.W.nsIn K mainGlobals "TOLD_STATES" = some (some (.int 40 t_TOLD_STATES))) :
    ∃ fd : FuncData, (∀ (s : Shared) (v : Value), BindsTo s fd ⟨[v], []⟩ [("script", v)]) ∧ ∀ base : Heap, K.In base → base.Ns mainGlobals mg → FnOk l.prog w K mg base C8.CX0 7 fa fd ["script"] (spLaw K) := by
  have e := hfa.symm.trans (PySem.W.mg_of X G a21)
  cases e
  have D0 : C8.Def K mg "letters" s_letters f0 _ := ⟨⟨_, _, _, _, _, _, _, _, _, _, rfl, l0, c0⟩, PySem.W.mg_of X G a0, k0⟩
  have b0 := C8.Fun.binds D0.fn rfl (ps := ["width"]) fun _ _ _ _ _ _ us hl => match us, hl with | [_], _ => rfl
  have D1 : C8.Def K mg "digit" s_digit f1 _ := ⟨⟨_, _, _, _, _, _, _, _, _, _, rfl, l1, c1⟩, PySem.W.mg_of X G a1, k1⟩
  have b1 := C8.Fun.binds D1.fn rfl (ps := ["letter", "track"]) fun _ _ _ _ _ _ us hl => match us, hl with | [_, _], _ => rfl
  have D2 : C8.Def K mg "letter_of" s_letter_of f2 _ := ⟨⟨_, _, _, _, _, _, _, _, _, _, rfl, l2, c2⟩, PySem.W.mg_of X G a2, k2⟩
  have b2 := C8.Fun.binds D2.fn rfl (ps := ["digits"]) fun _ _ _ _ _ _ us hl => match us, hl with | [_], _ => rfl
  have D3 : C8.Def K mg "word_of" s_word_of f3 _ := ⟨⟨_, _, _, _, _, _, _, _, _, _, rfl, l3, c3⟩, PySem.W.mg_of X G a3, k3⟩
  have b3 := C8.Fun.binds D3.fn rfl (ps := ["numbers"]) fun _ _ _ _ _ _ us hl => match us, hl with | [_], _ => rfl
  have D4 : C8.Def K mg "is_state" s_is_state f4 _ := ⟨⟨_, _, _, _, _, _, _, _, _, _, rfl, l4, c4⟩, PySem.W.mg_of X G a4, k4⟩
  have b4 := C8.Fun.binds D4.fn rfl (ps := ["value", "size"]) fun _ _ _ _ _ _ us hl => match us, hl with | [_, _], _ => rfl
  have D5 : C8.Def K mg "is_table" s_is_table f5 _ := ⟨⟨_, _, _, _, _, _, _, _, _, _, rfl, l5, c5⟩, PySem.W.mg_of X G a5, k5⟩
  have b5 := C8.Fun.binds D5.fn rfl (ps := ["table", "length"]) fun _ _ _ _ _ _ us hl => match us, hl with | [_, _], _ => rfl
  have D6 : C8.Def K mg "check_width" s_check_width f6 _ := ⟨⟨_, _, _, _, _, _, _, _, _, _, rfl, l6, c6⟩, PySem.W.mg_of X G a6, k6⟩
  have b6 := C8.Fun.binds D6.fn rfl (ps := ["width"]) fun _ _ _ _ _ _ us hl => match us, hl with | [_], _ => rfl
  have F7 : C8.Fun K "__init__" "Machine.__init__" s_Machine___init__ f7 _ := ⟨_, _, _, _, _, _, _, _, _, _, rfl, l7, c7⟩
  have b7 := C8.Fun.binds F7 rfl (ps := ["self", "width", "table", "accepting"]) fun _ _ _ _ _ _ us hl => match us, hl with | [_, _, _, _], _ => rfl
  have F8 : C8.Fun K "behind" "Machine.behind" s_Machine_behind f8 _ := ⟨_, _, _, _, _, _, _, _, _, _, rfl, l8, c8⟩
  have b8 := C8.Fun.binds F8 rfl (ps := ["self", "word"]) fun _ _ _ _ _ _ us hl => match us, hl with | [_, _], _ => rfl
  have F9 : C8.Fun K "accepts" "Machine.accepts" s_Machine_accepts f9 _ := ⟨_, _, _, _, _, _, _, _, _, _, rfl, l9, c9⟩
  have b9 := C8.Fun.binds F9 rfl (ps := ["self", "word"]) fun _ _ _ _ _ _ us hl => match us, hl with | [_, _], _ => rfl
  have F10 : C8.Fun K "takes" "Machine.takes" s_Machine_takes f10 _ := ⟨_, _, _, _, _, _, _, _, _, _, rfl, l10, c10⟩
  have b10 := C8.Fun.binds F10 rfl (ps := ["self", "numbers"]) fun _ _ _ _ _ _ us hl => match us, hl with | [_, _], _ => rfl
  have D11 : C8.Def K mg "_law_wide" s__law_wide f11 _ := ⟨⟨_, _, _, _, _, _, _, _, _, _, rfl, l11, c11⟩, PySem.W.mg_of X G a11, k11⟩
  have b11 := C8.Fun.binds D11.fn rfl (ps := ["script", "k"]) fun _ _ _ _ _ _ us hl => match us, hl with | [_, _], _ => rfl
  have D12 : C8.Def K mg "_law_take" s__law_take f12 _ := ⟨⟨_, _, _, _, _, _, _, _, _, _, rfl, l12, c12⟩, PySem.W.mg_of X G a12, k12⟩
  have b12 := C8.Fun.binds D12.fn rfl (ps := ["pool", "most"]) fun _ _ _ _ _ _ us hl => match us, hl with | [_, _], _ => rfl
  have D13 : C8.Def K mg "_law_pool" s__law_pool f13 _ := ⟨⟨_, _, _, _, _, _, _, _, _, _, rfl, l13, c13⟩, PySem.W.mg_of X G a13, k13⟩
  have b13 := C8.Fun.binds D13.fn rfl (ps := ["script"]) fun _ _ _ _ _ _ us hl => match us, hl with | [_], _ => rfl
  have D14 : C8.Def K mg "_law_number" s__law_number f14 _ := ⟨⟨_, _, _, _, _, _, _, _, _, _, rfl, l14, c14⟩, PySem.W.mg_of X G a14, k14⟩
  have b14 := C8.Fun.binds D14.fn rfl (ps := ["pool"]) fun _ _ _ _ _ _ us hl => match us, hl with | [_], _ => rfl
  have D15 : C8.Def K mg "_law_told_states" s__law_told_states f15 _ := ⟨⟨_, _, _, _, _, _, _, _, _, _, rfl, l15, c15⟩, PySem.W.mg_of X G a15, k15⟩
  have b15 := C8.Fun.binds D15.fn rfl (ps := ["pool"]) fun _ _ _ _ _ _ us hl => match us, hl with | [_], _ => rfl
  have D16 : C8.Def K mg "is_output" s_is_output f16 _ := ⟨⟨_, _, _, _, _, _, _, _, _, _, rfl, l16, c16⟩, PySem.W.mg_of X G a16, k16⟩
  have b16 := C8.Fun.binds D16.fn rfl (ps := ["value"]) fun _ _ _ _ _ _ us hl => match us, hl with | [_], _ => rfl
  have F17 : C8.Fun K "__init__" "Told.__init__" s_Told___init__ f17 _ := ⟨_, _, _, _, _, _, _, _, _, _, rfl, l17, c17⟩
  have b17 := C8.Fun.binds F17 rfl (ps := ["self", "outputs", "table"]) fun _ _ _ _ _ _ us hl => match us, hl with | [_, _, _], _ => rfl
  have F18 : C8.Fun K "output" "Told.output" s_Told_output f18 _ := ⟨_, _, _, _, _, _, _, _, _, _, rfl, l18, c18⟩
  have b18 := C8.Fun.binds F18 rfl (ps := ["self", "number"]) fun _ _ _ _ _ _ us hl => match us, hl with | [_, _], _ => rfl
  have F19 : C8.Fun K "machine" "Told.machine" s_Told_machine f19 _ := ⟨_, _, _, _, _, _, _, _, _, _, rfl, l19, c19⟩
  have b19 := C8.Fun.binds F19 rfl (ps := ["self", "output"]) fun _ _ _ _ _ _ us hl => match us, hl with | [_, _], _ => rfl
  have D20 : C8.Def K mg "_law_at" s__law_at f20 _ := ⟨⟨_, _, _, _, _, _, _, _, _, _, rfl, l20, c20⟩, PySem.W.mg_of X G a20, k20⟩
  have b20 := C8.Fun.binds D20.fn rfl (ps := ["outputs", "table", "number", "more"]) fun _ _ _ _ _ _ us hl => match us, hl with | [_, _, _, _], _ => rfl
  have D21 : C8.Def K mg "law" s_law fa _ := ⟨⟨_, _, _, _, _, _, _, _, _, _, rfl, l21, c21⟩, PySem.W.mg_of X G a21, k21⟩
  have c_CM : Cls K CM := ⟨pg_Machine, hd_Machine, po_Machine, sa_Machine⟩
  have nCM_width : NoAttr K CM "width" := no0_Machine
  have nCM_table : NoAttr K CM "table" := no1_Machine
  have nCM_accepting : NoAttr K CM "accepting" := no2_Machine
  have c_CT : Cls K CT := ⟨pg_Told, hd_Told, po_Told, sa_Told⟩
  have nCT_outputs : NoAttr K CT "outputs" := no0_Told
  have nCT_table : NoAttr K CT "table" := no1_Told
  have z_len := PySem.W.mg_none_of X G zz_len
  have z_abs := PySem.W.mg_none_of X G zz_abs
  have z_int := PySem.W.mg_none_of X G zz_int
  have z_list := PySem.W.mg_none_of X G zz_list
  have z_range := PySem.W.mg_none_of X G zz_range
  have z_isinstance := PySem.W.mg_none_of X G zz_isinstance
  have z_bool := PySem.W.mg_none_of X G zz_bool
  have z_max := PySem.W.mg_none_of X G zz_max
  have z_min := PySem.W.mg_none_of X G zz_min
  have z_sum := PySem.W.mg_none_of X G zz_sum
  have z_enumerate := PySem.W.mg_none_of X G zz_enumerate
  have z_all := PySem.W.mg_none_of X G zz_all
  have g_STATES : ∃ u, mg "STATES" = some u ∧ RelV (.int 400) u := ⟨_, PySem.W.mg_of X G gg_STATES, _, rfl⟩
  have g_TRACKS : ∃ u, mg "TRACKS" = some u ∧ RelV (.int 6) u := ⟨_, PySem.W.mg_of X G gg_TRACKS, _, rfl⟩
  have g_OUTPUT_LIMIT : ∃ u, mg "OUTPUT_LIMIT" = some u ∧ RelV (.int 9) u := ⟨_, PySem.W.mg_of X G gg_OUTPUT_LIMIT, _, rfl⟩
  have g_TOLD_STATES : ∃ u, mg "TOLD_STATES" = some u ∧ RelV (.int 40) u := ⟨_, PySem.W.mg_of X G gg_TOLD_STATES, _, rfl⟩
  refine ⟨PySem.W.fnOf "law" "law" (C8.fnArgs s_law) (C8.fnBody s_law) (C8.fnScope s_law) .none kV21 dc21 pm21 an21 cd21 ct21, fun s v => .of_eq rfl, fun base _ _ => ?_⟩
  have c_letters := c_letters (P := l.prog) (w := w) (base := base) D0 b0 
  have c_digit := c_digit (P := l.prog) (w := w) (base := base) D1 b1 
  have c_letter_of := c_letter_of (P := l.prog) (w := w) (base := base) D2 b2 z_sum z_enumerate
  have c_word_of := c_word_of (P := l.prog) (w := w) (base := base) D3 b3 c_digit c_letter_of z_max z_range
  have c_is_state := c_is_state (P := l.prog) (w := w) (base := base) D4 b4 z_isinstance z_int z_bool
  have c_is_table := c_is_table (P := l.prog) (w := w) (base := base) D5 b5 c_is_state z_len z_all
  have c_check_width := c_check_width (P := l.prog) (w := w) (base := base) D6 b6 g_TRACKS
  have k_Machine := k_Machine (P := l.prog) (w := w) (base := base) (mg := mg) ⟨mk_Machine, a7, i7, kc_Machine⟩ (PySem.W.mg_of X G aC_Machine) c_CM F7 b7 nCM_width nCM_table nCM_accepting c_check_width c_is_table c_letters z_len z_enumerate z_list g_STATES
  have m_Machine_behind := m_Machine_behind (P := l.prog) (w := w) (base := base) (mg := mg) c_CM ⟨a8, i8, k8⟩ F8 b8 nCM_width nCM_table nCM_accepting
  have m_Machine_accepts := m_Machine_accepts (P := l.prog) (w := w) (base := base) (mg := mg) c_CM ⟨a9, i9, k9⟩ F9 b9 nCM_width nCM_table nCM_accepting m_Machine_behind
  have m_Machine_takes := m_Machine_takes (P := l.prog) (w := w) (base := base) (mg := mg) c_CM ⟨a10, i10, k10⟩ F10 b10 nCM_width nCM_table nCM_accepting m_Machine_accepts c_word_of z_len
  have c__law_wide := c__law_wide (P := l.prog) (w := w) (base := base) D11 b11 z_len z_abs z_int
  have c__law_take := c__law_take (P := l.prog) (w := w) (base := base) D12 b12 z_int c__law_wide
  have c__law_pool := c__law_pool (P := l.prog) (w := w) (base := base) D13 b13 z_list
  have c__law_number := c__law_number (P := l.prog) (w := w) (base := base) D14 b14 c__law_take
  have c__law_told_states := c__law_told_states (P := l.prog) (w := w) (base := base) D15 b15 c__law_take z_range z_min
  have c_is_output := c_is_output (P := l.prog) (w := w) (base := base) D16 b16 z_isinstance z_int z_bool g_OUTPUT_LIMIT
  have k_Told := k_Told (P := l.prog) (w := w) (base := base) (mg := mg) ⟨mk_Told, a17, i17, kc_Told⟩ (PySem.W.mg_of X G aC_Told) c_CT F17 b17 nCT_outputs nCT_table c_is_output c_is_table z_len z_enumerate z_list z_all g_TOLD_STATES
  have m_Told_output := m_Told_output (P := l.prog) (w := w) (base := base) (mg := mg) c_CT ⟨a18, i18, k18⟩ F18 b18 nCT_outputs nCT_table
  have m_Told_machine := m_Told_machine (P := l.prog) (w := w) (base := base) (mg := mg) c_CT ⟨a19, i19, k19⟩ F19 b19 nCT_outputs nCT_table k_Machine
  have c__law_at := c__law_at (P := l.prog) (w := w) (base := base) D20 b20 z_range z_int
  exact f_law D21 c__law_take c__law_number c__law_pool c__law_told_states c__law_at c_CM nCM_width nCM_table nCM_accepting m_Machine_takes c_CT nCT_outputs nCT_table k_Told m_Told_output m_Told_machine z_list z_len z_range z_isinstance z_bool
end K33
open PySem PySem.W PyProof.Rows
set_option maxRecDepth 100000 in
set_option maxHeartbeats 0 in
theorem PySem.Challenge.cw_digitwise_k33_told_words_holds : PySem.Challenge.rw_digitwise_k33_told_words.Holds := by
  w_on; o_law; k_head; (case hw => w_witness2)
  k_fill
  refine L2.walk_of (l := PySem.Challenge.rw_digitwise_k33_told_words) (n := 63) (k := 7) (x := "script") (CX := fun _ => C8.CX0) (sp := fun w => K33.spLaw _) rfl (by decide) rfl ⟨rfl, by decide, by decide⟩ (fun w h Y => PySem.W.kIn_of Y) ?F (fun _ _ a ns hl _ hS => ⟨a, ns, rfl, hS, hl, fun _ => rfl⟩) (fun _ _ _ _ _ h => h)
  case F =>
    intro w mg fa h KX G hmg
    refine' K33.all_mk KX G hmg ?aC_Machine ?pg_Machine ?hd_Machine ?po_Machine ?sa_Machine ?mk_Machine ?kc_Machine ?no0_Machine ?no1_Machine ?no2_Machine ?aC_Told ?pg_Told ?hd_Told ?po_Told ?sa_Told ?mk_Told ?kc_Told ?no0_Told ?no1_Told ?a0 ?l0 ?c0 ?k0 ?a1 ?l1 ?c1 ?k1 ?a2 ?l2 ?c2 ?k2 ?a3 ?l3 ?c3 ?k3 ?a4 ?l4 ?c4 ?k4 ?a5 ?l5 ?c5 ?k5 ?a6 ?l6 ?c6 ?k6 ?a7 ?i7 ?l7 ?c7 ?k7 ?a8 ?i8 ?l8 ?c8 ?k8 ?a9 ?i9 ?l9 ?c9 ?k9 ?a10 ?i10 ?l10 ?c10 ?k10 ?a11 ?l11 ?c11 ?k11 ?a12 ?l12 ?c12 ?k12 ?a13 ?l13 ?c13 ?k13 ?a14 ?l14 ?c14 ?k14 ?a15 ?l15 ?c15 ?k15 ?a16 ?l16 ?c16 ?k16 ?a17 ?i17 ?l17 ?c17 ?k17 ?a18 ?i18 ?l18 ?c18 ?k18 ?a19 ?i19 ?l19 ?c19 ?k19 ?a20 ?l20 ?c20 ?k20 ?a21 ?l21 ?c21 ?k21 ?zz_len ?zz_abs ?zz_int ?zz_list ?zz_range ?zz_isinstance ?zz_bool ?zz_max ?zz_min ?zz_sum ?zz_enumerate ?zz_all ?gg_STATES ?gg_TRACKS ?gg_OUTPUT_LIMIT ?gg_TOLD_STATES
    (case aC_Machine => k_is)
    (case pg_Machine => k_is)
    (case hd_Machine => k_is)
    (case po_Machine => k_is)
    (case sa_Machine => k_is)
    (case mk_Machine => k_is)
    (case kc_Machine => k_is)
    (case no0_Machine => k_is)
    (case no1_Machine => k_is)
    (case no2_Machine => k_is)
    (case aC_Told => k_is)
    (case pg_Told => k_is)
    (case hd_Told => k_is)
    (case po_Told => k_is)
    (case sa_Told => k_is)
    (case mk_Told => k_is)
    (case kc_Told => k_is)
    (case no0_Told => k_is)
    (case no1_Told => k_is)
    (case a0 => k_is)
    (case l0 => k_is)
    (case c0 => k_is)
    (case k0 => k_is)
    (case a1 => k_is)
    (case l1 => k_is)
    (case c1 => k_is)
    (case k1 => k_is)
    (case a2 => k_is)
    (case l2 => k_is)
    (case c2 => k_is)
    (case k2 => k_is)
    (case a3 => k_is)
    (case l3 => k_is)
    (case c3 => k_is)
    (case k3 => k_is)
    (case a4 => k_is)
    (case l4 => k_is)
    (case c4 => k_is)
    (case k4 => k_is)
    (case a5 => k_is)
    (case l5 => k_is)
    (case c5 => k_is)
    (case k5 => k_is)
    (case a6 => k_is)
    (case l6 => k_is)
    (case c6 => k_is)
    (case k6 => k_is)
    (case a7 => k_is)
    (case i7 => k_is)
    (case l7 => k_is)
    (case c7 => k_is)
    (case k7 => k_is)
    (case a8 => k_is)
    (case i8 => k_is)
    (case l8 => k_is)
    (case c8 => k_is)
    (case k8 => k_is)
    (case a9 => k_is)
    (case i9 => k_is)
    (case l9 => k_is)
    (case c9 => k_is)
    (case k9 => k_is)
    (case a10 => k_is)
    (case i10 => k_is)
    (case l10 => k_is)
    (case c10 => k_is)
    (case k10 => k_is)
    (case a11 => k_is)
    (case l11 => k_is)
    (case c11 => k_is)
    (case k11 => k_is)
    (case a12 => k_is)
    (case l12 => k_is)
    (case c12 => k_is)
    (case k12 => k_is)
    (case a13 => k_is)
    (case l13 => k_is)
    (case c13 => k_is)
    (case k13 => k_is)
    (case a14 => k_is)
    (case l14 => k_is)
    (case c14 => k_is)
    (case k14 => k_is)
    (case a15 => k_is)
    (case l15 => k_is)
    (case c15 => k_is)
    (case k15 => k_is)
    (case a16 => k_is)
    (case l16 => k_is)
    (case c16 => k_is)
    (case k16 => k_is)
    (case a17 => k_is)
    (case i17 => k_is)
    (case l17 => k_is)
    (case c17 => k_is)
    (case k17 => k_is)
    (case a18 => k_is)
    (case i18 => k_is)
    (case l18 => k_is)
    (case c18 => k_is)
    (case k18 => k_is)
    (case a19 => k_is)
    (case i19 => k_is)
    (case l19 => k_is)
    (case c19 => k_is)
    (case k19 => k_is)
    (case a20 => k_is)
    (case l20 => k_is)
    (case c20 => k_is)
    (case k20 => k_is)
    (case a21 => k_is)
    (case l21 => k_is)
    (case c21 => k_is)
    (case k21 => k_is)
    (case zz_len => k_is)
    (case zz_abs => k_is)
    (case zz_int => k_is)
    (case zz_list => k_is)
    (case zz_range => k_is)
    (case zz_isinstance => k_is)
    (case zz_bool => k_is)
    (case zz_max => k_is)
    (case zz_min => k_is)
    (case zz_sum => k_is)
    (case zz_enumerate => k_is)
    (case zz_all => k_is)
    (case gg_STATES => k_is)
    (case gg_TRACKS => k_is)
    (case gg_OUTPUT_LIMIT => k_is)
    (case gg_TOLD_STATES => k_is)
