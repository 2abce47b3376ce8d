import Derived.Test.YtihbngfbcnojcaaGreatHidC07
namespace Go.Proofs.YtihbngfbcnojcaaGreat
open Go.RowKit

/-- The parts of a live store, each in a block of its own. -/
def Tag : Type := Fin 8 ⊕ Nat ⊕ Nat ⊕ Int ⊕ Int ⊕ Int
def Tag.kind : Tag := Sum.inl (0 : Fin 8)
def Tag.vol : Tag := Sum.inl (1 : Fin 8)
def Tag.disk : Tag := Sum.inl (2 : Fin 8)
def Tag.uns : Tag := Sum.inl (3 : Fin 8)
def Tag.mp : Tag := Sum.inl (4 : Fin 8)
def Tag.mc : Tag := Sum.inl (5 : Fin 8)
def Tag.mo : Tag := Sum.inl (6 : Fin 8)
def Tag.made : Tag := Sum.inl (7 : Fin 8)
def Tag.page (n : Nat) : Tag := (Sum.inr (Sum.inl n) : Fin 8 ⊕ Nat ⊕ Nat ⊕ Int ⊕ Int ⊕ Int)
def Tag.row (n : Nat) : Tag := (Sum.inr (Sum.inr (Sum.inl n)) : Fin 8 ⊕ Nat ⊕ Nat ⊕ Int ⊕ Int ⊕ Int)
def Tag.tx (n : Int) : Tag := (Sum.inr (Sum.inr (Sum.inr (Sum.inl n))) : Fin 8 ⊕ Nat ⊕ Nat ⊕ Int ⊕ Int ⊕ Int)
def Tag.held (n : Int) : Tag := (Sum.inr (Sum.inr (Sum.inr (Sum.inr (Sum.inl n)))) : Fin 8 ⊕ Nat ⊕ Nat ⊕ Int ⊕ Int ⊕ Int)
def Tag.madeOf (n : Int) : Tag := (Sum.inr (Sum.inr (Sum.inr (Sum.inr (Sum.inr n)))) : Fin 8 ⊕ Nat ⊕ Nat ⊕ Int ⊕ Int ⊕ Int)
theorem Tag.elim {motive : Tag → Prop} (kind : motive .kind) (vol : motive .vol) (disk : motive .disk) (uns : motive .uns) (mp : motive .mp) (mc : motive .mc) (mo : motive .mo) (made : motive .made) (page : ∀ n, motive (.page n)) (row : ∀ n, motive (.row n)) (tx : ∀ n, motive (.tx n)) (held : ∀ n, motive (.held n)) (madeOf : ∀ n, motive (.madeOf n)) (tag : Tag) : motive tag :=
  match tag with
  | Sum.inl 0 => kind
  | Sum.inl 1 => vol
  | Sum.inl 2 => disk
  | Sum.inl 3 => uns
  | Sum.inl 4 => mp
  | Sum.inl 5 => mc
  | Sum.inl 6 => mo
  | Sum.inl 7 => made
  | Sum.inr (Sum.inl n) => page n
  | Sum.inr (Sum.inr (Sum.inl n)) => row n
  | Sum.inr (Sum.inr (Sum.inr (Sum.inl n))) => tx n
  | Sum.inr (Sum.inr (Sum.inr (Sum.inr (Sum.inl n)))) => held n
  | Sum.inr (Sum.inr (Sum.inr (Sum.inr (Sum.inr n)))) => madeOf n

@[simp] theorem tag_kind_vol : (Tag.kind = Tag.vol) = False := eq_false (fun h => by injection h with h; cases h)
@[simp] theorem tag_kind_disk : (Tag.kind = Tag.disk) = False := eq_false (fun h => by injection h with h; cases h)
@[simp] theorem tag_kind_uns : (Tag.kind = Tag.uns) = False := eq_false (fun h => by injection h with h; cases h)
@[simp] theorem tag_kind_mp : (Tag.kind = Tag.mp) = False := eq_false (fun h => by injection h with h; cases h)
@[simp] theorem tag_kind_mc : (Tag.kind = Tag.mc) = False := eq_false (fun h => by injection h with h; cases h)
@[simp] theorem tag_kind_mo : (Tag.kind = Tag.mo) = False := eq_false (fun h => by injection h with h; cases h)
@[simp] theorem tag_kind_made : (Tag.kind = Tag.made) = False := eq_false (fun h => by injection h with h; cases h)
@[simp] theorem tag_vol_kind : (Tag.vol = Tag.kind) = False := eq_false (fun h => by injection h with h; cases h)
@[simp] theorem tag_vol_disk : (Tag.vol = Tag.disk) = False := eq_false (fun h => by injection h with h; cases h)
@[simp] theorem tag_vol_uns : (Tag.vol = Tag.uns) = False := eq_false (fun h => by injection h with h; cases h)
@[simp] theorem tag_vol_mp : (Tag.vol = Tag.mp) = False := eq_false (fun h => by injection h with h; cases h)
@[simp] theorem tag_vol_mc : (Tag.vol = Tag.mc) = False := eq_false (fun h => by injection h with h; cases h)
@[simp] theorem tag_vol_mo : (Tag.vol = Tag.mo) = False := eq_false (fun h => by injection h with h; cases h)
@[simp] theorem tag_vol_made : (Tag.vol = Tag.made) = False := eq_false (fun h => by injection h with h; cases h)
@[simp] theorem tag_disk_kind : (Tag.disk = Tag.kind) = False := eq_false (fun h => by injection h with h; cases h)
@[simp] theorem tag_disk_vol : (Tag.disk = Tag.vol) = False := eq_false (fun h => by injection h with h; cases h)
@[simp] theorem tag_disk_uns : (Tag.disk = Tag.uns) = False := eq_false (fun h => by injection h with h; cases h)
@[simp] theorem tag_disk_mp : (Tag.disk = Tag.mp) = False := eq_false (fun h => by injection h with h; cases h)
@[simp] theorem tag_disk_mc : (Tag.disk = Tag.mc) = False := eq_false (fun h => by injection h with h; cases h)
@[simp] theorem tag_disk_mo : (Tag.disk = Tag.mo) = False := eq_false (fun h => by injection h with h; cases h)
@[simp] theorem tag_disk_made : (Tag.disk = Tag.made) = False := eq_false (fun h => by injection h with h; cases h)
@[simp] theorem tag_uns_kind : (Tag.uns = Tag.kind) = False := eq_false (fun h => by injection h with h; cases h)
@[simp] theorem tag_uns_vol : (Tag.uns = Tag.vol) = False := eq_false (fun h => by injection h with h; cases h)
@[simp] theorem tag_uns_disk : (Tag.uns = Tag.disk) = False := eq_false (fun h => by injection h with h; cases h)
@[simp] theorem tag_uns_mp : (Tag.uns = Tag.mp) = False := eq_false (fun h => by injection h with h; cases h)
@[simp] theorem tag_uns_mc : (Tag.uns = Tag.mc) = False := eq_false (fun h => by injection h with h; cases h)
@[simp] theorem tag_uns_mo : (Tag.uns = Tag.mo) = False := eq_false (fun h => by injection h with h; cases h)
@[simp] theorem tag_uns_made : (Tag.uns = Tag.made) = False := eq_false (fun h => by injection h with h; cases h)
@[simp] theorem tag_mp_kind : (Tag.mp = Tag.kind) = False := eq_false (fun h => by injection h with h; cases h)
@[simp] theorem tag_mp_vol : (Tag.mp = Tag.vol) = False := eq_false (fun h => by injection h with h; cases h)
@[simp] theorem tag_mp_disk : (Tag.mp = Tag.disk) = False := eq_false (fun h => by injection h with h; cases h)
@[simp] theorem tag_mp_uns : (Tag.mp = Tag.uns) = False := eq_false (fun h => by injection h with h; cases h)
@[simp] theorem tag_mp_mc : (Tag.mp = Tag.mc) = False := eq_false (fun h => by injection h with h; cases h)
@[simp] theorem tag_mp_mo : (Tag.mp = Tag.mo) = False := eq_false (fun h => by injection h with h; cases h)
@[simp] theorem tag_mp_made : (Tag.mp = Tag.made) = False := eq_false (fun h => by injection h with h; cases h)
@[simp] theorem tag_mc_kind : (Tag.mc = Tag.kind) = False := eq_false (fun h => by injection h with h; cases h)
@[simp] theorem tag_mc_vol : (Tag.mc = Tag.vol) = False := eq_false (fun h => by injection h with h; cases h)
@[simp] theorem tag_mc_disk : (Tag.mc = Tag.disk) = False := eq_false (fun h => by injection h with h; cases h)
@[simp] theorem tag_mc_uns : (Tag.mc = Tag.uns) = False := eq_false (fun h => by injection h with h; cases h)
@[simp] theorem tag_mc_mp : (Tag.mc = Tag.mp) = False := eq_false (fun h => by injection h with h; cases h)
@[simp] theorem tag_mc_mo : (Tag.mc = Tag.mo) = False := eq_false (fun h => by injection h with h; cases h)
@[simp] theorem tag_mc_made : (Tag.mc = Tag.made) = False := eq_false (fun h => by injection h with h; cases h)
@[simp] theorem tag_mo_kind : (Tag.mo = Tag.kind) = False := eq_false (fun h => by injection h with h; cases h)
@[simp] theorem tag_mo_vol : (Tag.mo = Tag.vol) = False := eq_false (fun h => by injection h with h; cases h)
@[simp] theorem tag_mo_disk : (Tag.mo = Tag.disk) = False := eq_false (fun h => by injection h with h; cases h)
@[simp] theorem tag_mo_uns : (Tag.mo = Tag.uns) = False := eq_false (fun h => by injection h with h; cases h)
@[simp] theorem tag_mo_mp : (Tag.mo = Tag.mp) = False := eq_false (fun h => by injection h with h; cases h)
@[simp] theorem tag_mo_mc : (Tag.mo = Tag.mc) = False := eq_false (fun h => by injection h with h; cases h)
@[simp] theorem tag_mo_made : (Tag.mo = Tag.made) = False := eq_false (fun h => by injection h with h; cases h)
@[simp] theorem tag_made_kind : (Tag.made = Tag.kind) = False := eq_false (fun h => by injection h with h; cases h)
@[simp] theorem tag_made_vol : (Tag.made = Tag.vol) = False := eq_false (fun h => by injection h with h; cases h)
@[simp] theorem tag_made_disk : (Tag.made = Tag.disk) = False := eq_false (fun h => by injection h with h; cases h)
@[simp] theorem tag_made_uns : (Tag.made = Tag.uns) = False := eq_false (fun h => by injection h with h; cases h)
@[simp] theorem tag_made_mp : (Tag.made = Tag.mp) = False := eq_false (fun h => by injection h with h; cases h)
@[simp] theorem tag_made_mc : (Tag.made = Tag.mc) = False := eq_false (fun h => by injection h with h; cases h)
@[simp] theorem tag_made_mo : (Tag.made = Tag.mo) = False := eq_false (fun h => by injection h with h; cases h)
@[simp] theorem tag_kind_page (n : Nat) : (Tag.kind = Tag.page n) = False := eq_false (fun h => by injection h)
@[simp] theorem tag_page_kind (n : Nat) : (Tag.page n = Tag.kind) = False := eq_false (fun h => by injection h)
@[simp] theorem tag_kind_row (n : Nat) : (Tag.kind = Tag.row n) = False := eq_false (fun h => by injection h)
@[simp] theorem tag_row_kind (n : Nat) : (Tag.row n = Tag.kind) = False := eq_false (fun h => by injection h)
@[simp] theorem tag_kind_tx (n : Int) : (Tag.kind = Tag.tx n) = False := eq_false (fun h => by injection h)
@[simp] theorem tag_tx_kind (n : Int) : (Tag.tx n = Tag.kind) = False := eq_false (fun h => by injection h)
@[simp] theorem tag_kind_held (n : Int) : (Tag.kind = Tag.held n) = False := eq_false (fun h => by injection h)
@[simp] theorem tag_held_kind (n : Int) : (Tag.held n = Tag.kind) = False := eq_false (fun h => by injection h)
@[simp] theorem tag_kind_madeOf (n : Int) : (Tag.kind = Tag.madeOf n) = False := eq_false (fun h => by injection h)
@[simp] theorem tag_madeOf_kind (n : Int) : (Tag.madeOf n = Tag.kind) = False := eq_false (fun h => by injection h)
@[simp] theorem tag_vol_page (n : Nat) : (Tag.vol = Tag.page n) = False := eq_false (fun h => by injection h)
@[simp] theorem tag_page_vol (n : Nat) : (Tag.page n = Tag.vol) = False := eq_false (fun h => by injection h)
@[simp] theorem tag_vol_row (n : Nat) : (Tag.vol = Tag.row n) = False := eq_false (fun h => by injection h)
@[simp] theorem tag_row_vol (n : Nat) : (Tag.row n = Tag.vol) = False := eq_false (fun h => by injection h)
@[simp] theorem tag_vol_tx (n : Int) : (Tag.vol = Tag.tx n) = False := eq_false (fun h => by injection h)
@[simp] theorem tag_tx_vol (n : Int) : (Tag.tx n = Tag.vol) = False := eq_false (fun h => by injection h)
@[simp] theorem tag_vol_held (n : Int) : (Tag.vol = Tag.held n) = False := eq_false (fun h => by injection h)
@[simp] theorem tag_held_vol (n : Int) : (Tag.held n = Tag.vol) = False := eq_false (fun h => by injection h)
@[simp] theorem tag_vol_madeOf (n : Int) : (Tag.vol = Tag.madeOf n) = False := eq_false (fun h => by injection h)
@[simp] theorem tag_madeOf_vol (n : Int) : (Tag.madeOf n = Tag.vol) = False := eq_false (fun h => by injection h)
@[simp] theorem tag_disk_page (n : Nat) : (Tag.disk = Tag.page n) = False := eq_false (fun h => by injection h)
@[simp] theorem tag_page_disk (n : Nat) : (Tag.page n = Tag.disk) = False := eq_false (fun h => by injection h)
@[simp] theorem tag_disk_row (n : Nat) : (Tag.disk = Tag.row n) = False := eq_false (fun h => by injection h)
@[simp] theorem tag_row_disk (n : Nat) : (Tag.row n = Tag.disk) = False := eq_false (fun h => by injection h)
@[simp] theorem tag_disk_tx (n : Int) : (Tag.disk = Tag.tx n) = False := eq_false (fun h => by injection h)
@[simp] theorem tag_tx_disk (n : Int) : (Tag.tx n = Tag.disk) = False := eq_false (fun h => by injection h)
@[simp] theorem tag_disk_held (n : Int) : (Tag.disk = Tag.held n) = False := eq_false (fun h => by injection h)
@[simp] theorem tag_held_disk (n : Int) : (Tag.held n = Tag.disk) = False := eq_false (fun h => by injection h)
@[simp] theorem tag_disk_madeOf (n : Int) : (Tag.disk = Tag.madeOf n) = False := eq_false (fun h => by injection h)
@[simp] theorem tag_madeOf_disk (n : Int) : (Tag.madeOf n = Tag.disk) = False := eq_false (fun h => by injection h)
@[simp] theorem tag_uns_page (n : Nat) : (Tag.uns = Tag.page n) = False := eq_false (fun h => by injection h)
@[simp] theorem tag_page_uns (n : Nat) : (Tag.page n = Tag.uns) = False := eq_false (fun h => by injection h)
@[simp] theorem tag_uns_row (n : Nat) : (Tag.uns = Tag.row n) = False := eq_false (fun h => by injection h)
@[simp] theorem tag_row_uns (n : Nat) : (Tag.row n = Tag.uns) = False := eq_false (fun h => by injection h)
@[simp] theorem tag_uns_tx (n : Int) : (Tag.uns = Tag.tx n) = False := eq_false (fun h => by injection h)
@[simp] theorem tag_tx_uns (n : Int) : (Tag.tx n = Tag.uns) = False := eq_false (fun h => by injection h)
@[simp] theorem tag_uns_held (n : Int) : (Tag.uns = Tag.held n) = False := eq_false (fun h => by injection h)
@[simp] theorem tag_held_uns (n : Int) : (Tag.held n = Tag.uns) = False := eq_false (fun h => by injection h)
@[simp] theorem tag_uns_madeOf (n : Int) : (Tag.uns = Tag.madeOf n) = False := eq_false (fun h => by injection h)
@[simp] theorem tag_madeOf_uns (n : Int) : (Tag.madeOf n = Tag.uns) = False := eq_false (fun h => by injection h)
@[simp] theorem tag_mp_page (n : Nat) : (Tag.mp = Tag.page n) = False := eq_false (fun h => by injection h)
@[simp] theorem tag_page_mp (n : Nat) : (Tag.page n = Tag.mp) = False := eq_false (fun h => by injection h)
@[simp] theorem tag_mp_row (n : Nat) : (Tag.mp = Tag.row n) = False := eq_false (fun h => by injection h)
@[simp] theorem tag_row_mp (n : Nat) : (Tag.row n = Tag.mp) = False := eq_false (fun h => by injection h)
@[simp] theorem tag_mp_tx (n : Int) : (Tag.mp = Tag.tx n) = False := eq_false (fun h => by injection h)
@[simp] theorem tag_tx_mp (n : Int) : (Tag.tx n = Tag.mp) = False := eq_false (fun h => by injection h)
@[simp] theorem tag_mp_held (n : Int) : (Tag.mp = Tag.held n) = False := eq_false (fun h => by injection h)
@[simp] theorem tag_held_mp (n : Int) : (Tag.held n = Tag.mp) = False := eq_false (fun h => by injection h)
@[simp] theorem tag_mp_madeOf (n : Int) : (Tag.mp = Tag.madeOf n) = False := eq_false (fun h => by injection h)
@[simp] theorem tag_madeOf_mp (n : Int) : (Tag.madeOf n = Tag.mp) = False := eq_false (fun h => by injection h)
@[simp] theorem tag_mc_page (n : Nat) : (Tag.mc = Tag.page n) = False := eq_false (fun h => by injection h)
@[simp] theorem tag_page_mc (n : Nat) : (Tag.page n = Tag.mc) = False := eq_false (fun h => by injection h)
@[simp] theorem tag_mc_row (n : Nat) : (Tag.mc = Tag.row n) = False := eq_false (fun h => by injection h)
@[simp] theorem tag_row_mc (n : Nat) : (Tag.row n = Tag.mc) = False := eq_false (fun h => by injection h)
@[simp] theorem tag_mc_tx (n : Int) : (Tag.mc = Tag.tx n) = False := eq_false (fun h => by injection h)
@[simp] theorem tag_tx_mc (n : Int) : (Tag.tx n = Tag.mc) = False := eq_false (fun h => by injection h)
@[simp] theorem tag_mc_held (n : Int) : (Tag.mc = Tag.held n) = False := eq_false (fun h => by injection h)
@[simp] theorem tag_held_mc (n : Int) : (Tag.held n = Tag.mc) = False := eq_false (fun h => by injection h)
@[simp] theorem tag_mc_madeOf (n : Int) : (Tag.mc = Tag.madeOf n) = False := eq_false (fun h => by injection h)
@[simp] theorem tag_madeOf_mc (n : Int) : (Tag.madeOf n = Tag.mc) = False := eq_false (fun h => by injection h)
@[simp] theorem tag_mo_page (n : Nat) : (Tag.mo = Tag.page n) = False := eq_false (fun h => by injection h)
@[simp] theorem tag_page_mo (n : Nat) : (Tag.page n = Tag.mo) = False := eq_false (fun h => by injection h)
@[simp] theorem tag_mo_row (n : Nat) : (Tag.mo = Tag.row n) = False := eq_false (fun h => by injection h)
@[simp] theorem tag_row_mo (n : Nat) : (Tag.row n = Tag.mo) = False := eq_false (fun h => by injection h)
@[simp] theorem tag_mo_tx (n : Int) : (Tag.mo = Tag.tx n) = False := eq_false (fun h => by injection h)
@[simp] theorem tag_tx_mo (n : Int) : (Tag.tx n = Tag.mo) = False := eq_false (fun h => by injection h)
@[simp] theorem tag_mo_held (n : Int) : (Tag.mo = Tag.held n) = False := eq_false (fun h => by injection h)
@[simp] theorem tag_held_mo (n : Int) : (Tag.held n = Tag.mo) = False := eq_false (fun h => by injection h)
@[simp] theorem tag_mo_madeOf (n : Int) : (Tag.mo = Tag.madeOf n) = False := eq_false (fun h => by injection h)
@[simp] theorem tag_madeOf_mo (n : Int) : (Tag.madeOf n = Tag.mo) = False := eq_false (fun h => by injection h)
@[simp] theorem tag_made_page (n : Nat) : (Tag.made = Tag.page n) = False := eq_false (fun h => by injection h)
@[simp] theorem tag_page_made (n : Nat) : (Tag.page n = Tag.made) = False := eq_false (fun h => by injection h)
@[simp] theorem tag_made_row (n : Nat) : (Tag.made = Tag.row n) = False := eq_false (fun h => by injection h)
@[simp] theorem tag_row_made (n : Nat) : (Tag.row n = Tag.made) = False := eq_false (fun h => by injection h)
@[simp] theorem tag_made_tx (n : Int) : (Tag.made = Tag.tx n) = False := eq_false (fun h => by injection h)
@[simp] theorem tag_tx_made (n : Int) : (Tag.tx n = Tag.made) = False := eq_false (fun h => by injection h)
@[simp] theorem tag_made_held (n : Int) : (Tag.made = Tag.held n) = False := eq_false (fun h => by injection h)
@[simp] theorem tag_held_made (n : Int) : (Tag.held n = Tag.made) = False := eq_false (fun h => by injection h)
@[simp] theorem tag_made_madeOf (n : Int) : (Tag.made = Tag.madeOf n) = False := eq_false (fun h => by injection h)
@[simp] theorem tag_madeOf_made (n : Int) : (Tag.madeOf n = Tag.made) = False := eq_false (fun h => by injection h)
@[simp] theorem tag_page_row (n : Nat) (m : Nat) : (Tag.page n = Tag.row m) = False := eq_false (fun h => by have h' : (Sum.inr (Sum.inl n) : Fin 8 ⊕ Nat ⊕ Nat ⊕ Int ⊕ Int ⊕ Int) = Sum.inr (Sum.inr (Sum.inl m)) := h; simp at h')
@[simp] theorem tag_page_tx (n : Nat) (m : Int) : (Tag.page n = Tag.tx m) = False := eq_false (fun h => by have h' : (Sum.inr (Sum.inl n) : Fin 8 ⊕ Nat ⊕ Nat ⊕ Int ⊕ Int ⊕ Int) = Sum.inr (Sum.inr (Sum.inr (Sum.inl m))) := h; simp at h')
@[simp] theorem tag_page_held (n : Nat) (m : Int) : (Tag.page n = Tag.held m) = False := eq_false (fun h => by have h' : (Sum.inr (Sum.inl n) : Fin 8 ⊕ Nat ⊕ Nat ⊕ Int ⊕ Int ⊕ Int) = Sum.inr (Sum.inr (Sum.inr (Sum.inr (Sum.inl m)))) := h; simp at h')
@[simp] theorem tag_page_madeOf (n : Nat) (m : Int) : (Tag.page n = Tag.madeOf m) = False := eq_false (fun h => by have h' : (Sum.inr (Sum.inl n) : Fin 8 ⊕ Nat ⊕ Nat ⊕ Int ⊕ Int ⊕ Int) = Sum.inr (Sum.inr (Sum.inr (Sum.inr (Sum.inr m)))) := h; simp at h')
@[simp] theorem tag_row_page (n : Nat) (m : Nat) : (Tag.row n = Tag.page m) = False := eq_false (fun h => by have h' : (Sum.inr (Sum.inr (Sum.inl n)) : Fin 8 ⊕ Nat ⊕ Nat ⊕ Int ⊕ Int ⊕ Int) = Sum.inr (Sum.inl m) := h; simp at h')
@[simp] theorem tag_row_tx (n : Nat) (m : Int) : (Tag.row n = Tag.tx m) = False := eq_false (fun h => by have h' : (Sum.inr (Sum.inr (Sum.inl n)) : Fin 8 ⊕ Nat ⊕ Nat ⊕ Int ⊕ Int ⊕ Int) = Sum.inr (Sum.inr (Sum.inr (Sum.inl m))) := h; simp at h')
@[simp] theorem tag_row_held (n : Nat) (m : Int) : (Tag.row n = Tag.held m) = False := eq_false (fun h => by have h' : (Sum.inr (Sum.inr (Sum.inl n)) : Fin 8 ⊕ Nat ⊕ Nat ⊕ Int ⊕ Int ⊕ Int) = Sum.inr (Sum.inr (Sum.inr (Sum.inr (Sum.inl m)))) := h; simp at h')
@[simp] theorem tag_row_madeOf (n : Nat) (m : Int) : (Tag.row n = Tag.madeOf m) = False := eq_false (fun h => by have h' : (Sum.inr (Sum.inr (Sum.inl n)) : Fin 8 ⊕ Nat ⊕ Nat ⊕ Int ⊕ Int ⊕ Int) = Sum.inr (Sum.inr (Sum.inr (Sum.inr (Sum.inr m)))) := h; simp at h')
@[simp] theorem tag_tx_page (n : Int) (m : Nat) : (Tag.tx n = Tag.page m) = False := eq_false (fun h => by have h' : (Sum.inr (Sum.inr (Sum.inr (Sum.inl n))) : Fin 8 ⊕ Nat ⊕ Nat ⊕ Int ⊕ Int ⊕ Int) = Sum.inr (Sum.inl m) := h; simp at h')
@[simp] theorem tag_tx_row (n : Int) (m : Nat) : (Tag.tx n = Tag.row m) = False := eq_false (fun h => by have h' : (Sum.inr (Sum.inr (Sum.inr (Sum.inl n))) : Fin 8 ⊕ Nat ⊕ Nat ⊕ Int ⊕ Int ⊕ Int) = Sum.inr (Sum.inr (Sum.inl m)) := h; simp at h')
@[simp] theorem tag_tx_held (n : Int) (m : Int) : (Tag.tx n = Tag.held m) = False := eq_false (fun h => by have h' : (Sum.inr (Sum.inr (Sum.inr (Sum.inl n))) : Fin 8 ⊕ Nat ⊕ Nat ⊕ Int ⊕ Int ⊕ Int) = Sum.inr (Sum.inr (Sum.inr (Sum.inr (Sum.inl m)))) := h; simp at h')
@[simp] theorem tag_tx_madeOf (n : Int) (m : Int) : (Tag.tx n = Tag.madeOf m) = False := eq_false (fun h => by have h' : (Sum.inr (Sum.inr (Sum.inr (Sum.inl n))) : Fin 8 ⊕ Nat ⊕ Nat ⊕ Int ⊕ Int ⊕ Int) = Sum.inr (Sum.inr (Sum.inr (Sum.inr (Sum.inr m)))) := h; simp at h')
@[simp] theorem tag_held_page (n : Int) (m : Nat) : (Tag.held n = Tag.page m) = False := eq_false (fun h => by have h' : (Sum.inr (Sum.inr (Sum.inr (Sum.inr (Sum.inl n)))) : Fin 8 ⊕ Nat ⊕ Nat ⊕ Int ⊕ Int ⊕ Int) = Sum.inr (Sum.inl m) := h; simp at h')
@[simp] theorem tag_held_row (n : Int) (m : Nat) : (Tag.held n = Tag.row m) = False := eq_false (fun h => by have h' : (Sum.inr (Sum.inr (Sum.inr (Sum.inr (Sum.inl n)))) : Fin 8 ⊕ Nat ⊕ Nat ⊕ Int ⊕ Int ⊕ Int) = Sum.inr (Sum.inr (Sum.inl m)) := h; simp at h')
@[simp] theorem tag_held_tx (n : Int) (m : Int) : (Tag.held n = Tag.tx m) = False := eq_false (fun h => by have h' : (Sum.inr (Sum.inr (Sum.inr (Sum.inr (Sum.inl n)))) : Fin 8 ⊕ Nat ⊕ Nat ⊕ Int ⊕ Int ⊕ Int) = Sum.inr (Sum.inr (Sum.inr (Sum.inl m))) := h; simp at h')
@[simp] theorem tag_held_madeOf (n : Int) (m : Int) : (Tag.held n = Tag.madeOf m) = False := eq_false (fun h => by have h' : (Sum.inr (Sum.inr (Sum.inr (Sum.inr (Sum.inl n)))) : Fin 8 ⊕ Nat ⊕ Nat ⊕ Int ⊕ Int ⊕ Int) = Sum.inr (Sum.inr (Sum.inr (Sum.inr (Sum.inr m)))) := h; simp at h')
@[simp] theorem tag_madeOf_page (n : Int) (m : Nat) : (Tag.madeOf n = Tag.page m) = False := eq_false (fun h => by have h' : (Sum.inr (Sum.inr (Sum.inr (Sum.inr (Sum.inr n)))) : Fin 8 ⊕ Nat ⊕ Nat ⊕ Int ⊕ Int ⊕ Int) = Sum.inr (Sum.inl m) := h; simp at h')
@[simp] theorem tag_madeOf_row (n : Int) (m : Nat) : (Tag.madeOf n = Tag.row m) = False := eq_false (fun h => by have h' : (Sum.inr (Sum.inr (Sum.inr (Sum.inr (Sum.inr n)))) : Fin 8 ⊕ Nat ⊕ Nat ⊕ Int ⊕ Int ⊕ Int) = Sum.inr (Sum.inr (Sum.inl m)) := h; simp at h')
@[simp] theorem tag_madeOf_tx (n : Int) (m : Int) : (Tag.madeOf n = Tag.tx m) = False := eq_false (fun h => by have h' : (Sum.inr (Sum.inr (Sum.inr (Sum.inr (Sum.inr n)))) : Fin 8 ⊕ Nat ⊕ Nat ⊕ Int ⊕ Int ⊕ Int) = Sum.inr (Sum.inr (Sum.inr (Sum.inl m))) := h; simp at h')
@[simp] theorem tag_madeOf_held (n : Int) (m : Int) : (Tag.madeOf n = Tag.held m) = False := eq_false (fun h => by have h' : (Sum.inr (Sum.inr (Sum.inr (Sum.inr (Sum.inr n)))) : Fin 8 ⊕ Nat ⊕ Nat ⊕ Int ⊕ Int ⊕ Int) = Sum.inr (Sum.inr (Sum.inr (Sum.inr (Sum.inl m)))) := h; simp at h')
@[simp] theorem tag_page_inj (n m : Nat) : (Tag.page n = Tag.page m) = (n = m) := propext ⟨(fun h => by have h' : (Sum.inr (Sum.inl n) : Fin 8 ⊕ Nat ⊕ Nat ⊕ Int ⊕ Int ⊕ Int) = Sum.inr (Sum.inl m) := h; simpa using h'), fun h => by rw [h]⟩
@[simp] theorem tag_row_inj (n m : Nat) : (Tag.row n = Tag.row m) = (n = m) := propext ⟨(fun h => by have h' : (Sum.inr (Sum.inr (Sum.inl n)) : Fin 8 ⊕ Nat ⊕ Nat ⊕ Int ⊕ Int ⊕ Int) = Sum.inr (Sum.inr (Sum.inl m)) := h; simpa using h'), fun h => by rw [h]⟩
@[simp] theorem tag_tx_inj (n m : Int) : (Tag.tx n = Tag.tx m) = (n = m) := propext ⟨(fun h => by have h' : (Sum.inr (Sum.inr (Sum.inr (Sum.inl n))) : Fin 8 ⊕ Nat ⊕ Nat ⊕ Int ⊕ Int ⊕ Int) = Sum.inr (Sum.inr (Sum.inr (Sum.inl m))) := h; simpa using h'), fun h => by rw [h]⟩
@[simp] theorem tag_held_inj (n m : Int) : (Tag.held n = Tag.held m) = (n = m) := propext ⟨(fun h => by have h' : (Sum.inr (Sum.inr (Sum.inr (Sum.inr (Sum.inl n)))) : Fin 8 ⊕ Nat ⊕ Nat ⊕ Int ⊕ Int ⊕ Int) = Sum.inr (Sum.inr (Sum.inr (Sum.inr (Sum.inl m)))) := h; simpa using h'), fun h => by rw [h]⟩
@[simp] theorem tag_madeOf_inj (n m : Int) : (Tag.madeOf n = Tag.madeOf m) = (n = m) := propext ⟨(fun h => by have h' : (Sum.inr (Sum.inr (Sum.inr (Sum.inr (Sum.inr n)))) : Fin 8 ⊕ Nat ⊕ Nat ⊕ Int ⊕ Int ⊕ Int) = Sum.inr (Sum.inr (Sum.inr (Sum.inr (Sum.inr m)))) := h; simpa using h'), fun h => by rw [h]⟩

/-- A page in memory. -/
structure PgV where
  g : Nat
  turn : Nat
  v : Value
/-- An open transaction. -/
structure TxE where
  (tb hb nH : Nat)
  last : Nat
  H : DataW Value
/-- A table: its block, how many entries it has at most, and they. -/
structure TabV where
  (b n : Nat)
  M : DataW Value

/-- A live store. -/
structure Sv where
  (kb vb db : Nat)
  ty : TypeId
  (start count turn : Int)
  (len begun acts : Nat)
  D : Array Value
  ws : List (Nat × List Value)
  v : Value
  (mp mc mo : TabV)
  made : Option TabV
  pgs : Nat → Option PgV
  cont : Nat → Pairs
  tx : Int → Option TxE
  mt : Int → Option TabV

def Sv.cells (s : Sv) : Array Value :=
  #[.pointer (some ⟨s.vb, 0, none⟩), .int .i64 (s.len : Int), .pointer (some ⟨s.vb, 0, none⟩), .map (some s.mp.b), .map (some s.mc.b), .map (some s.mo.b), .int .i64 (s.begun : Int), .int .i64 (s.acts : Int)] ++ (match s.made with | none => #[] | some m => #[.map (some m.b)])

/-- In which block a part lies. -/
def Sv.blk (s : Sv) (tag : Tag) : Option Nat :=
  match tag with
  | Sum.inl 0 => some s.kb
  | Sum.inl 1 => some s.vb
  | Sum.inl 2 => some s.db
  | Sum.inl 3 => s.v.ownBlock
  | Sum.inl 4 => some s.mp.b
  | Sum.inl 5 => some s.mc.b
  | Sum.inl 6 => some s.mo.b
  | Sum.inl 7 => s.made.map (·.b)
  | Sum.inr (Sum.inl n) => (s.pgs n).map (·.g)
  | Sum.inr (Sum.inr (Sum.inl n)) => (s.pgs n).bind (·.v.ownBlock)
  | Sum.inr (Sum.inr (Sum.inr (Sum.inl n))) => (s.tx n).map (·.tb)
  | Sum.inr (Sum.inr (Sum.inr (Sum.inr (Sum.inl n)))) => (s.tx n).map (·.hb)
  | Sum.inr (Sum.inr (Sum.inr (Sum.inr (Sum.inr n)))) => (s.mt n).map (·.b)
@[simp] theorem blk_at_kind (s : Sv) : s.blk .kind = some s.kb := rfl
@[simp] theorem blk_at_vol (s : Sv) : s.blk .vol = some s.vb := rfl
@[simp] theorem blk_at_disk (s : Sv) : s.blk .disk = some s.db := rfl
@[simp] theorem blk_at_uns (s : Sv) : s.blk .uns = s.v.ownBlock := rfl
@[simp] theorem blk_at_mp (s : Sv) : s.blk .mp = some s.mp.b := rfl
@[simp] theorem blk_at_mc (s : Sv) : s.blk .mc = some s.mc.b := rfl
@[simp] theorem blk_at_mo (s : Sv) : s.blk .mo = some s.mo.b := rfl
@[simp] theorem blk_at_made (s : Sv) : s.blk .made = s.made.map (·.b) := rfl
@[simp] theorem blk_at_page (s : Sv) (n : Nat) : s.blk (.page n) = (s.pgs n).map (·.g) := rfl
@[simp] theorem blk_at_row (s : Sv) (n : Nat) : s.blk (.row n) = (s.pgs n).bind (·.v.ownBlock) := rfl
@[simp] theorem blk_at_tx (s : Sv) (n : Int) : s.blk (.tx n) = (s.tx n).map (·.tb) := rfl
@[simp] theorem blk_at_held (s : Sv) (n : Int) : s.blk (.held n) = (s.tx n).map (·.hb) := rfl
@[simp] theorem blk_at_madeOf (s : Sv) (n : Int) : s.blk (.madeOf n) = (s.mt n).map (·.b) := rfl

/-- What lies there. -/
def Sv.comp (s : Sv) (w : World) (tag : Tag) : Prop :=
  match tag with
  | Sum.inl 0 => w.heap[s.kb]? = some (.cells s.cells s.ty (0, 0))
  | Sum.inl 1 => w.heap[s.vb]? = some (.cells (volCells s.db s.start s.count s.turn) 126 (0, 0))
  | Sum.inl 2 => w.heap[s.db]? = some (.cells s.D 103 (0, 0))
  | Sum.inl 3 => w.ownsRow (s.db + 1) 143 65 s.v s.ws.length (rowOf s.ws)
  | Sum.inl 4 => MapOf w 3 s.mp.b s.mp.n s.mp.M
  | Sum.inl 5 => MapOf w 3 s.mc.b s.mc.n s.mc.M
  | Sum.inl 6 => MapOf w 3 s.mo.b s.mo.n s.mo.M
  | Sum.inl 7 => ∀ m, s.made = some m → MapOf w 3 m.b m.n m.M
  | Sum.inr (Sum.inl n) => ∀ p, s.pgs n = some p → w.heap[p.g]? = some (.cells #[.int .i64 (p.turn : Int), p.v] 180 (0, 0))
  | Sum.inr (Sum.inr (Sum.inl n)) => ∀ p, s.pgs n = some p → w.ownsRow 0 43 2 p.v (s.cont n).length (pairCells (s.cont n))
  | Sum.inr (Sum.inr (Sum.inr (Sum.inl n))) => ∀ x, s.tx n = some x → TxIs w x.tb (x.last : Int) x.hb
  | Sum.inr (Sum.inr (Sum.inr (Sum.inr (Sum.inl n)))) => ∀ x, s.tx n = some x → MapOf w 9 x.hb x.nH x.H
  | Sum.inr (Sum.inr (Sum.inr (Sum.inr (Sum.inr n)))) => ∀ m, s.mt n = some m → MapOf w 9 m.b m.n m.M

theorem comp_congr (s : Sv) {w w' : World} (tag : Tag) (h : s.comp w tag) (hk : ∀ k, s.blk tag = some k → w'.heap[k]? = w.heap[k]?) : s.comp w' tag := by
  cases tag using Tag.elim with
  | kind => exact (hk _ rfl).trans h
  | vol => exact (hk _ rfl).trans h
  | disk => exact (hk _ rfl).trans h
  | uns => exact owns_off h hk
  | mp => exact MapOf.kept h (hk _ rfl)
  | mc => exact MapOf.kept h (hk _ rfl)
  | mo => exact MapOf.kept h (hk _ rfl)
  | made => exact fun m hm => (h m hm).kept (hk _ (by simp [hm]))
  | page n => exact fun p hp => (hk _ (by simp [hp])).trans (h p hp)
  | row n => exact fun p hp => owns_off (h p hp) (fun g hg => hk _ (by simp [hp, hg]))
  | tx t => exact fun x hx => (hk _ (by simp [hx])).trans (h x hx)
  | held t => exact fun x hx => (h x hx).kept (hk _ (by simp [hx]))
  | madeOf t => exact fun x hx => (h x hx).kept (hk _ (by simp [hx]))

/-- It lies in memory, each part in a block of its own. -/
structure Lies (w : World) (s : Sv) : Prop where
  comp : ∀ tag, s.comp w tag
  apart : ∀ a b k, s.blk a = some k → s.blk b = some k → a = b
  lt : ∀ tag k, s.blk tag = some k → k < w.heap.size

/-- From one state to the next: some parts are touched, the others lie as they lay. -/
theorem Lies.step {w w' : World} {s s' : Sv} (h : Lies w s) (T : Tag → Prop) (hsame : ∀ tag, ¬ T tag → s'.blk tag = s.blk tag ∧ (∀ W, s.comp W tag → s'.comp W tag)) (hkeep : ∀ tag k, ¬ T tag → s.blk tag = some k → w'.heap[k]? = w.heap[k]?)
    (htouch : ∀ tag, T tag → s'.comp w' tag) (hblk : ∀ tag k, T tag → s'.blk tag = some k → s.blk tag = some k ∨ (w.heap.size ≤ k ∧ k < w'.heap.size)) (hnew : ∀ a b k, T a → T b → s'.blk a = some k → s'.blk b = some k → a = b) (hsize : w.heap.size ≤ w'.heap.size) : Lies w' s' := by
  have hold : ∀ a b k, T a → ¬ T b → s'.blk a = some k → s'.blk b = some k → a = b := fun a b k ha hb h1 h2 => by
    rw [(hsame b hb).1] at h2
    rcases hblk a k ha h1 with h3 | ⟨h3, _⟩
    · exact h.apart a b k h3 h2
    · exact absurd (h.lt b k h2) (by omega)
  refine ⟨fun tag => ?_, fun a b k h1 h2 => ?_, fun tag k hk => ?_⟩
  · by_cases ht : T tag
    · exact htouch tag ht
    · obtain ⟨h1, h2⟩ := hsame tag ht
      exact comp_congr s' tag (h2 w (h.comp tag)) (fun k hk => hkeep tag k ht (by rw [← h1]; exact hk))
  · by_cases ha : T a
    · by_cases hb : T b
      · exact hnew a b k ha hb h1 h2
      · exact hold a b k ha hb h1 h2
    · by_cases hb : T b
      · exact (hold b a k hb ha h2 h1).symm
      · rw [(hsame a ha).1] at h1
        rw [(hsame b hb).1] at h2
        exact h.apart a b k h1 h2
  · by_cases ht : T tag
    · rcases hblk tag k ht hk with h1 | ⟨_, h1⟩
      · have := h.lt tag k h1; omega
      · exact h1
    · rw [(hsame tag ht).1] at hk
      have := h.lt tag k hk; omega

theorem Lies.below {w w' : World} {s : Sv} (h : Lies w s) (hb : Below w.heap.size w w') : Lies w' s :=
  ⟨fun tag => comp_congr s tag (h.comp tag) (fun k hk => hb.block k (h.lt tag k hk)), h.apart, fun tag k hk => by have := h.lt tag k hk; have := hb.size; omega⟩
/-- Two parts do not lie in one block. -/
theorem Lies.ne {w : World} {s : Sv} (h : Lies w s) {a b : Tag} {x y : Nat} (ha : s.blk a = some x) (hb : s.blk b = some y) (hab : a ≠ b) : x ≠ y := fun e => hab (h.apart a b x ha (by rw [e]; exact hb))
end Go.Proofs.YtihbngfbcnojcaaGreat

namespace Go.Proofs.YtihbngfbcnojcaaGreat
open Go.RowKit

/-- How many pages are not in memory. -/
def away (f : Nat → Option PgV) : Nat :=
  (if (f 0).isNone then 1 else 0) + (if (f 1).isNone then 1 else 0) + (if (f 2).isNone then 1 else 0) + (if (f 3).isNone then 1 else 0) + (if (f 4).isNone then 1 else 0) + (if (f 5).isNone then 1 else 0) + (if (f 6).isNone then 1 else 0) + (if (f 7).isNone then 1 else 0)
theorem away_put (f : Nat → Option PgV) (n : Nat) (hn : n < 8) (p : PgV) (h : f n = none) : away (fun m => if m = n then some p else f m) + 1 = away f := by
  have : n = 0 ∨ n = 1 ∨ n = 2 ∨ n = 3 ∨ n = 4 ∨ n = 5 ∨ n = 6 ∨ n = 7 := by omega
  unfold away
  rcases this with rfl | rfl | rfl | rfl | rfl | rfl | rfl | rfl <;> simp [h] <;> omega

/-- A page's place among the pages in memory. -/
def pageKey (n : Nat) : Lit := .int .i64 (n : Int)

/-- What holds of a live store's parts. -/
structure Good (s : Sv) : Prop where
  dsz : s.D.size = 27779
  dv : s.D[27776]? = some s.v
  fuse : s.D[27777]? = some (.int .i64 0)
  ok : WsOk s.ws
  wn : s.ws.length ≤ s.len + 100
  ln : s.len ≤ 391
  db : ∀ i u, i < 27776 → s.D[i]? = some u → IsByte u
  wb : ∀ p ∈ s.ws, ∀ u ∈ p.2, IsByte u
  have' : ∀ n p, n < 8 → s.pgs n = some p → ∀ zd, s.mp.M.atKey (pageKey n) zd = .held (.pointer (some ⟨p.g, 0, none⟩))
  lack : ∀ n, n < 8 → s.pgs n = none → ∀ zd, s.mp.M.atKey (pageKey n) zd = zd
  room : s.mp.n + away s.pgs ≤ 8
  load : ∀ n, n < 8 → s.pgs n = none → ∃ c0 c1, PageOn s.D s.ws n c0 c1 ∧ s.cont n = (NewSt.of c0 c1 2).rec'
  rise : ∀ n, n < 8 → RisingAt (s.cont n) ∧ (s.cont n).length ≤ 4 ∧ ∀ p ∈ s.cont n, p.1.size ≤ 8 ∧ p.2.size ≤ 12
  st : 0 ≤ s.start ∧ s.start < 4294967295
  ct : 0 ≤ s.count ∧ s.count ≤ 100 + s.len + 1000 * s.acts
  ac : s.acts ≤ 120
  mon : s.mo.n ≤ s.acts
  mcn : s.mc.n ≤ s.len
  isOpen : ∀ t x, s.tx t = some x → OpenIs s.mo.M t x.tb
  notOpen : ∀ t, s.tx t = none → NotOpen s.mo.M t

theorem cells_of (s : Sv) {j : Nat} {u : Value} (hj : j < 8) (h : (#[.pointer (some ⟨s.vb, 0, none⟩), .int .i64 (s.len : Int), .pointer (some ⟨s.vb, 0, none⟩), .map (some s.mp.b), .map (some s.mc.b), .map (some s.mo.b), .int .i64 (s.begun : Int), .int .i64 (s.acts : Int)] : Array Value)[j]? = some u) : s.cells[j]? = some u := by
  unfold Sv.cells
  rw [Array.getElem?_append_left (by simpa using hj)]
  exact h

theorem Lies.frame {w w' : World} {s : Sv} (h : Lies w s) (hk : ∀ tag k, s.blk tag = some k → w'.heap[k]? = w.heap[k]?) (hs : w.heap.size ≤ w'.heap.size) : Lies w' s :=
  ⟨fun tag => comp_congr s tag (h.comp tag) (hk tag), h.apart, fun tag k hb => by have := h.lt tag k hb; omega⟩

theorem uns_of {w : World} {base : Nat} {v : Value} {ws : List (Nat × List Value)} (h : w.ownsRow base 143 65 v ws.length (rowOf ws)) : UnsAt w v ws := by
  rcases h.2 with ⟨h1, h2⟩ | ⟨g, cap, cur, h1, _, h3, _, _, _, h4⟩
  · exact .inl ⟨h1, List.length_eq_zero_iff.1 h2⟩
  · refine .inr ⟨g, cap, cur, h1, h3, fun j u hu => ?_⟩
    rw [← h4] at hu
    rw [List.getElem?_take] at hu
    split at hu
    · simpa using hu
    · cases hu

theorem Lies.disk {w : World} {s : Sv} (h : Lies w s) (g : Good s) : DiskIs w s.db s.D s.ws s.v :=
  ⟨h.comp .disk, g.dsz, g.dv, uns_of (h.comp .uns), g.ok, by have := g.wn; have := g.ln; omega, g.db, g.wb⟩

/-- What lies in a block that it did not lie in, lies in a new one. -/
def Grown (s s' : Sv) (n : Nat) : Prop := ∀ tag k, s'.blk tag = some k → s.blk tag = some k ∨ n ≤ k
theorem Grown.refl (s : Sv) (n : Nat) : Grown s s n := fun _ _ h => .inl h
theorem Grown.trans {a b c : Sv} {n m : Nat} (h : Grown a b n) (k : Grown b c m) (hm : n ≤ m) : Grown a c n := fun tag q hq => by
  rcases k tag q hq with h1 | h1
  · exact h tag q h1
  · exact .inr (by omega)
theorem Grown.mono {a b : Sv} {n m : Nat} (h : Grown a b n) (hm : m ≤ n) : Grown a b m := fun tag q hq => (h tag q hq).imp_right (fun h => by omega)

/-- A step of a live store: what is none of its parts lies as it lay. -/
structure Goes (w w' : World) (s s' : Sv) : Prop where
  lies : Lies w' s'
  good : Good s'
  grown : Grown s s' w.heap.size
  off : ∀ q, q < w.heap.size → (∀ tag, s.blk tag ≠ some q) → w'.heap[q]? = w.heap[q]?
  below : Below 0 w w'
theorem Goes.refl {w : World} {s : Sv} (h : Lies w s) (g : Good s) : Goes w w s s := ⟨h, g, Grown.refl _ _, fun _ _ _ => rfl, Below.refl _ _⟩
theorem Goes.trans {w w1 w2 : World} {s s1 s2 : Sv} (h : Goes w w1 s s1) (k : Goes w1 w2 s1 s2) : Goes w w2 s s2 := by
  have hz := h.below.size
  refine ⟨k.lies, k.good, h.grown.trans k.grown hz, fun q hq hn => ?_, h.below.trans k.below⟩
  refine (k.off q (by omega) (fun tag ht => ?_)).trans (h.off q hq hn)
  rcases h.grown tag q ht with h1 | h1
  · exact hn tag h1
  · omega
/-- A step behind an allocation for one's own use: what was allocated lies there still. -/
theorem Goes.own {w W w' : World} {s s' : Sv} (hl : Lies w s) (h : Goes W w' s s') {q : Nat} (hq : w.heap.size ≤ q) (hq' : q < W.heap.size) : w'.heap[q]? = W.heap[q]? ∧ ∀ tag, s'.blk tag ≠ some q := by
  refine ⟨h.off q hq' (fun tag ht => by have := hl.lt tag q ht; omega), fun tag ht => ?_⟩
  rcases h.grown tag q ht with h1 | h1
  · have := hl.lt tag q h1; omega
  · omega
/-- Ahead of a step, and behind it, something of one's own is made and changed. -/
theorem Goes.wrap {w W w1 w2 : World} {s s' : Sv} (hl : Lies w s) (h0 : Below w.heap.size w W) (h : Goes W w1 s s') (hk : ∀ q, q < w1.heap.size → q < w.heap.size ∨ W.heap.size ≤ q → w2.heap[q]? = w1.heap[q]?) (hb : Below 0 w1 w2) : Goes w w2 s s' := by
  have hz := h0.size
  refine ⟨h.lies.frame (fun tag k hk' => ?_) hb.size, h.good, h.grown.mono hz, fun q hq hn => ?_, (h0.mono (Nat.zero_le _)).trans (h.below.trans hb)⟩
  · refine hk k (h.lies.lt tag k hk') ?_
    rcases h.grown tag k hk' with h1 | h1
    · exact .inl (hl.lt tag k h1)
    · exact .inr h1
  · have := h.below.size
    exact (hk q (by omega) (.inl hq)).trans ((h.off q (by omega) hn).trans (h0.block q hq))

/-- Between two states no more than pages were read into memory. -/
def Paged (s s' : Sv) : Prop := ∃ P m, s' = { s with pgs := P, mp := m } ∧ m.b = s.mp.b

set_option maxHeartbeats 1000000 in
/-- pool.page of a live store. -/
theorem page_step {w : World} {s : Sv} (h : Lies w s) (g : Good s) (n : Nat) (hn : n < 8) :
    Calls Tryz.prog 111 #[.pointer (some ⟨s.kb, 2, none⟩), .int .i64 (n : Int)] w fun e w' => ∃ s' p, e = .returned (.pointer (some ⟨p.g, 0, none⟩)) ∧ s'.pgs n = some p ∧ Paged s s' ∧ Goes w w' s s' := by
  have c2 : w.cell? ⟨s.kb, 2, none⟩ = some (.pointer (some ⟨s.vb, 0, none⟩)) := cell_at (h.comp .kind) (cells_of s (by omega) rfl)
  have c3 : w.cell? ⟨s.kb, 2 + 1, none⟩ = some (.map (some s.mp.b)) := cell_at (h.comp .kind) (cells_of s (j := 3) (by omega) rfl)
  cases hp : s.pgs n with
  | some p =>
    refine (page_have s.kb 2 s.mp.b s.mp.n n p.g s.mp.M w hn c3 (h.comp .mp) (g.have' n p hn hp _)).mono ?_
    rintro e w' ⟨rfl, rfl⟩
    exact ⟨s, p, rfl, hp, ⟨s.pgs, s.mp, rfl, rfl⟩, Goes.refl h g⟩
  | none =>
    obtain ⟨c0, c1, hon, hct⟩ := g.load n hn hp
    have hvc : w.cell? ⟨s.vb, 0, none⟩ = some (.pointer (some ⟨s.db, 0, none⟩)) := cell_at (h.comp .vol) rfl
    refine (page_load s.kb 2 s.vb s.db s.mp.b s.mp.n n s.D s.ws s.v c0 c1 s.mp.M w hn (by have := g.room; omega) c2 c3 hvc (h.lt .kind _ rfl) (h.lt .vol _ rfl) (h.ne (a := .kind) (b := .mp) rfl rfl (by simp)) (h.disk g) hon (h.comp .mp) (g.lack n hn hp _)).mono ?_
    rintro e w' ⟨q, rfl, x, hq1, hq2, hq3, hq4, hq5, hq6, hq7⟩
    rw [← hct] at hq3
    refine ⟨{ s with pgs := fun m => if m = n then some ⟨q, (NewSt.of c0 c1 2).at', x⟩ else s.pgs m, mp := ⟨s.mp.b, s.mp.n + 1, s.mp.M.put (.int .i64 (n : Int)) (.held (.pointer (some ⟨q, 0, none⟩)))⟩ }, ⟨q, (NewSt.of c0 c1 2).at', x⟩, rfl, by simp, ⟨_, _, rfl, rfl⟩, ?_, ?_, ?_, fun k hk hn' => hq6 k hk (fun e => hn' .mp (by rw [e]; rfl)), hq7⟩
    · have hqw : q < w'.heap.size := lt_of_block' hq2
      have hxo := World.ownsRow.lt hq3
      refine h.step (fun tag => tag = .mp ∨ tag = .page n ∨ tag = .row n) ?_ ?_ ?_ ?_ ?_ hq7.size
      · intro tag ht
        simp only [not_or] at ht
        obtain ⟨t1, t2, t3⟩ := ht
        cases tag using Tag.elim with
        | page m => have hm : m ≠ n := fun e => t2 (by rw [e]); exact ⟨by simp [hm], fun W hW p hp' => by simp [hm] at hp'; exact hW p hp'⟩
        | row m => have hm : m ≠ n := fun e => t3 (by rw [e]); exact ⟨by simp [hm], fun W hW p hp' => by simp [hm] at hp'; exact hW p hp'⟩
        | mp => exact absurd rfl t1
        | _ => exact ⟨rfl, fun W hW => hW⟩
      · intro tag k ht hk
        exact hq6 k (h.lt tag k hk) (fun e => ht (.inl (h.apart tag .mp k hk (by rw [e]; rfl))))
      · rintro tag (rfl | rfl | rfl)
        · exact hq5
        · intro p hp'
          simp at hp'
          subst hp'
          exact hq2
        · intro p hp'
          simp at hp'
          subst hp'
          exact owns_mono hq3 (Nat.zero_le _)
      · rintro tag k (rfl | rfl | rfl) hk
        · exact .inl hk
        · simp at hk
          exact .inr (by omega)
        · simp at hk
          exact .inr (hxo k hk)
      · rintro a b k (rfl | rfl | rfl) (rfl | rfl | rfl) h1 h2 <;> simp at h1 h2 ⊢
        · have := h.lt .mp _ rfl; omega
        · have := (hxo k h2).1; have := h.lt .mp _ rfl; omega
        · have := h.lt .mp _ rfl; omega
        · exact hq4 (by rw [h1]; exact h2)
        · have := (hxo k h1).1; have := h.lt .mp _ rfl; omega
        · exact hq4 (by rw [h2]; exact h1)
    · have hM := World.ownsMap.isMap (h.comp .mp)
      refine { dsz := g.dsz, dv := g.dv, fuse := g.fuse, ok := g.ok, wn := g.wn, ln := g.ln, db := g.db, wb := g.wb, have' := fun m p hm hp' zd => ?_, lack := fun m hm hp' zd => ?_, room := ?_, load := fun m hm hp' => ?_, rise := g.rise, st := g.st, ct := g.ct, ac := g.ac, mon := g.mon, mcn := g.mcn, isOpen := g.isOpen, notOpen := g.notOpen }
      · by_cases hmn : m = n
        · subst hmn
          simp at hp'
          subst hp'
          exact Maps.atKey_put_same hM (by simp [WideAt.IsKeyLit]) _ _
        · simp [hmn] at hp'
          rw [← g.have' m p hm hp' zd]
          exact Maps.atKey_put_other (by simp [pageKey]; omega) _ _
      · by_cases hmn : m = n
        · subst hmn; simp at hp'
        · simp [hmn] at hp'
          refine Eq.trans ?_ (g.lack m hm hp' zd)
          exact Maps.atKey_put_other (by simp [pageKey]; omega) _ _
      · have := away_put s.pgs n hn ⟨q, (NewSt.of c0 c1 2).at', x⟩ hp
        have := g.room
        show s.mp.n + 1 + away (fun m => if m = n then some ⟨q, (NewSt.of c0 c1 2).at', x⟩ else s.pgs m) ≤ 8
        omega
      · by_cases hmn : m = n
        · subst hmn; simp at hp'
        · simp [hmn] at hp'
          exact g.load m hm hp'
    · intro tag k hk
      cases tag using Tag.elim with
      | page m =>
        by_cases hm : m = n
        · simp [hm] at hk; exact .inr (by omega)
        · simp [hm] at hk; exact .inl (by simp; exact hk)
      | row m =>
        by_cases hm : m = n
        · simp [hm] at hk; exact .inr (World.ownsRow.lt hq3 k hk).1
        · simp [hm] at hk; exact .inl (by simp; exact hk)
      | _ => exact .inl hk
end Go.Proofs.YtihbngfbcnojcaaGreat

namespace Go.Proofs.YtihbngfbcnojcaaGreat
open Go.RowKit

/-- A table of held keys. -/
def TabOk (H : DataW Value) : Prop := ∀ key : ByteArray, (∀ zd, H.atKey (lit key) zd = zd) ∨ ∃ h : Int, 1 ≤ h ∧ h ≤ 2 ∧ key.size ≤ 8 ∧ ∀ zd, H.atKey (lit key) zd = .held (.int .i64 h)
def intIn : DataW Value → Int
  | .held (.int _ h) => h
  | _ => 0
/-- How a table holds a key: 0, 1 or 2. -/
def holdOf (H : DataW Value) (key : ByteArray) : Int := intIn (H.atKey (lit key) (.held (.int .i64 0)))
theorem holdOf_at {H : DataW Value} (h : TabOk H) (key : ByteArray) : H.atKey (lit key) (.held (.int .i64 0)) = .held (.int .i64 (holdOf H key)) ∧ 0 ≤ holdOf H key ∧ holdOf H key ≤ 2 := by
  unfold holdOf
  rcases h key with h1 | ⟨x, h1, h2, _, h3⟩
  · rw [h1]; exact ⟨rfl, by simp [intIn], by simp [intIn]⟩
  · rw [h3]; simp only [intIn]; exact ⟨trivial, by omega, h2⟩
theorem TabOk.put {H : DataW Value} (h : TabOk H) (hm : Maps.IsMap H) (key : ByteArray) (hk : key.size ≤ 8) (x : Int) (h1 : 1 ≤ x) (h2 : x ≤ 2) : TabOk (H.put (lit key) (.held (.int .i64 x))) := fun s => by
  by_cases hs : s = key
  · subst hs
    exact .inr ⟨x, h1, h2, hk, fun zd => Maps.atKey_put_same hm (by simp [WideAt.IsKeyLit]) _ _⟩
  · have hne : lit s ≠ lit key := fun e => hs (lit_inj e)
    rcases h s with h3 | ⟨y, h3, h4, h5, h6⟩
    · exact .inl fun zd => (Maps.atKey_put_other hne _ _).trans (h3 zd)
    · exact .inr ⟨y, h3, h4, h5, fun zd => (Maps.atKey_put_other hne _ _).trans (h6 zd)⟩
theorem holdOf_put {H : DataW Value} (hm : Maps.IsMap H) (key s : ByteArray) (x : Int) : holdOf (H.put (lit key) (.held (.int .i64 x))) s = if s = key then x else holdOf H s := by
  by_cases hs : s = key
  · subst hs
    rw [if_pos rfl]
    unfold holdOf
    rw [Maps.atKey_put_same hm (by simp [WideAt.IsKeyLit])]
    rfl
  · rw [if_neg hs]
    unfold holdOf
    rw [Maps.atKey_put_other (fun e => hs (lit_inj e))]

/-- The open transactions' tables; none has had more than q entries. -/
def Held (s : Sv) (q : Nat) : Prop := ∀ t x, s.tx t = some x → x.nH ≤ q ∧ TabOk x.H ∧ Maps.IsMap x.H
/-- How a transaction holds a key. -/
def Sv.holds (s : Sv) (key : ByteArray) (t : Int) : Int := match s.tx t with | some x => holdOf x.H key | none => 0

/-- The tables of held keys. -/
def Sv.tabs (s : Sv) (t : Int) : DataW Value := match s.tx t with | some x => x.H | none => .map []

theorem open_of {s : Sv} (g : Good s) {t : Int} {v : Value} (hv : ∀ zd, s.mo.M.atKey (.int .i64 t) zd = .held v) : ∃ x, s.tx t = some x ∧ v = .pointer (some ⟨x.tb, 0, none⟩) := by
  cases hx : s.tx t with
  | some x =>
    refine ⟨x, rfl, ?_⟩
    have h1 := hv (.held (.pointer none))
    rw [g.isOpen t x hx] at h1
    simp only [DataW.held.injEq] at h1
    exact h1.symm
  | none =>
    have h1 := hv (.map [])
    rw [g.notOpen t hx] at h1
    cases h1

theorem holds_of {w : World} {s : Sv} {q : Nat} (h : Lies w s) (g : Good s) (hh : Held s q) (key : ByteArray) : HoldsIs w s.mo.M key (s.holds key) := fun t v hv => by
  obtain ⟨x, hx, rfl⟩ := open_of g hv
  obtain ⟨_, h2, h3⟩ := hh t x hx
  obtain ⟨a1, a2, a3⟩ := holdOf_at h2 key
  refine ⟨x.tb, (x.last : Int), x.hb, x.nH, x.H, rfl, h.comp (.tx t) x hx, h.comp (.held t) x hx, ?_, ?_, ?_⟩ <;> simp only [Sv.holds, hx]
  · exact a1
  · exact a2
  · exact a3

theorem tabs_of {w : World} {s : Sv} {q : Nat} (h : Lies w s) (g : Good s) (hh : Held s q) (hq : q ≤ 100000) : Tabs w s.mo.M s.tabs := fun t v hv => by
  obtain ⟨x, hx, rfl⟩ := open_of g hv
  obtain ⟨h1, h2, h3⟩ := hh t x hx
  refine ⟨x.tb, (x.last : Int), x.hb, x.nH, rfl, h.comp (.tx t) x hx, ?_, by omega, fun key y hy => ?_⟩
  · simp only [Sv.tabs, hx]; exact h.comp (.held t) x hx
  · simp only [Sv.tabs, hx] at hy
    rcases h2 key with h4 | ⟨z, h4, h5, h6, h7⟩
    · have := hy (.map []); rw [h4] at this; cases this
    · have := hy (.map []); rw [h7] at this
      simp only [DataW.held.injEq] at this
      exact ⟨z, this.symm, by omega⟩

/-- A key is granted. -/
def granted (s : Sv) (t : Int) (x : TxE) (key : ByteArray) (lv : Int) : Sv :=
  { s with tx := fun u => if u = t then some { x with nH := x.nH + 1, H := x.H.put (lit key) (.held (.int .i64 (max (holdOf x.H key) lv))) } else s.tx u }

theorem granted_holds {s : Sv} {q : Nat} (hh : Held s q) (t : Int) (x : TxE) (hx : s.tx t = some x) (key : ByteArray) (lv : Int) (k : ByteArray) (u : Int) : (granted s t x key lv).holds k u = if u = t ∧ k = key then max (s.holds key t) lv else s.holds k u := by
  obtain ⟨_, _, h3⟩ := hh t x hx
  unfold Sv.holds granted
  by_cases hu : u = t
  · subst hu
    simp only [if_true, hx, true_and]
    rw [holdOf_put h3]
  · simp [hu]

theorem granted_blk (s : Sv) (t : Int) (x : TxE) (hx : s.tx t = some x) (key : ByteArray) (lv : Int) (tag : Tag) : (granted s t x key lv).blk tag = s.blk tag := by
  cases tag using Tag.elim with
  | tx u => by_cases hu : u = t
            · subst hu; simp [granted, hx]
            · simp [granted, hu]
  | held u => by_cases hu : u = t
              · subst hu; simp [granted, hx]
              · simp [granted, hu]
  | _ => rfl

set_option maxHeartbeats 1000000 in
theorem grant_step {w : World} {s : Sv} {q : Nat} (h : Lies w s) (g : Good s) (hh : Held s q) (hq : q ≤ 100000) (t : Int) (ht : IsInt t) (x : TxE) (hx : s.tx t = some x) (key : ByteArray) (hks : key.size ≤ 8) (lv : Int) (hlv : 1 ≤ lv ∧ lv ≤ 2) :
    Calls Tryz.prog 294 #[.pointer (some ⟨s.kb, 0, none⟩), .int .i64 t, .string key, .int .i64 lv] w fun e w' => e = .returned (.tuple #[]) ∧ Goes w w' s (granted s t x key lv) ∧ Held (granted s t x key lv) (q + 1) := by
  obtain ⟨h1, h2, h3⟩ := hh t x hx
  obtain ⟨a1, a2, a3⟩ := holdOf_at h2 key
  have c5 : w.cell? ⟨s.kb, 5, none⟩ = some (.map (some s.mo.b)) := cell_at (h.comp .kind) (cells_of s (by omega) rfl)
  refine (grant_any s.kb s.mo.b s.mo.n x.tb x.hb x.nH s.mo.M x.H t key (x.last : Int) lv (holdOf x.H key) w ht (by omega) (by omega) c5 (h.comp .mo) (g.isOpen t x hx) (h.comp (.tx t) x hx) ⟨h.comp (.held t) x hx, a1, a2, a3⟩).mono ?_
  rintro e w' ⟨rfl, k1, k2, k3, k4⟩
  have hB := granted_blk s t x hx key lv
  have hmx : Maps.IsMap (x.H.put (lit key) (.held (.int .i64 (max (holdOf x.H key) lv)))) := World.ownsMap.isMap k1
  refine ⟨rfl, ⟨?_, ?_, fun tag k hk => .inl (by rw [← hB]; exact hk), fun k _ hn => k2 k (fun e => hn (.held t) (by simp [hx, e])), k4⟩, ?_⟩
  · refine h.step (fun tag => tag = .held t) (fun tag ht' => ⟨hB tag, fun W hW => ?_⟩) (fun tag k ht' hk => k2 k (fun e => ht' (h.apart tag (.held t) k hk (by simp [hx, e])))) ?_ (fun tag k _ hk => .inl (by rw [← hB]; exact hk)) (fun a b k ha hb _ _ => by rw [ha, hb]) (by omega)
    · cases tag using Tag.elim with
      | tx u =>
        by_cases hu : u = t
        · subst hu
          intro y hy
          simp [granted] at hy
          subst hy
          exact hW x hx
        · intro y hy
          simp [granted, hu] at hy
          exact hW y hy
      | held u =>
        have hu : u ≠ t := fun e => ht' (by rw [e])
        intro y hy
        simp [granted, hu] at hy
        exact hW y hy
      | _ => exact hW
    · rintro tag rfl y hy
      simp [granted] at hy
      subst hy
      exact k1
  · exact { dsz := g.dsz, dv := g.dv, fuse := g.fuse, ok := g.ok, wn := g.wn, ln := g.ln, db := g.db, wb := g.wb, have' := g.have', lack := g.lack, room := g.room, load := g.load, rise := g.rise, st := g.st, ct := g.ct, ac := g.ac, mon := g.mon, mcn := g.mcn, isOpen := fun u y hy => by
              by_cases hu : u = t
              · subst hu
                simp [granted] at hy
                subst hy
                exact g.isOpen u x hx
              · simp [granted, hu] at hy
                exact g.isOpen u y hy
            notOpen := fun u hy => by
              by_cases hu : u = t
              · subst hu; simp [granted] at hy
              · simp [granted, hu] at hy
                exact g.notOpen u hy }
  · intro u y hy
    by_cases hu : u = t
    · subst hu
      simp [granted] at hy
      subst hy
      exact ⟨by show x.nH + 1 ≤ q + 1; omega, h2.put h3 key hks _ (by omega) (by omega), hmx⟩
    · simp [granted, hu] at hy
      obtain ⟨b1, b2, b3⟩ := hh u y hy
      exact ⟨by omega, b2, b3⟩
end Go.Proofs.YtihbngfbcnojcaaGreat

namespace Go.Proofs.YtihbngfbcnojcaaGreat
open Go.RowKit

theorem bucket_lt (key : ByteArray) : bucket key < 8 := Nat.mod_lt _ (by omega)

theorem Paged.refl (s : Sv) : Paged s s := ⟨s.pgs, s.mp, rfl, rfl⟩
theorem Paged.trans {a b c : Sv} (h : Paged a b) (k : Paged b c) : Paged a c := by
  obtain ⟨P, m, rfl, h1⟩ := h
  obtain ⟨P', m', rfl, h2⟩ := k
  exact ⟨P', m', rfl, h2.trans h1⟩
theorem Paged.held {s s' : Sv} (h : Paged s s') {q : Nat} (hh : Held s q) : Held s' q := by
  obtain ⟨P, m, rfl, h1⟩ := h
  exact hh

theorem Paged.same {s s' : Sv} (h : Paged s s') : s'.kb = s.kb ∧ s'.mo = s.mo ∧ s'.cont = s.cont ∧ s'.tx = s.tx ∧ s'.tabs = s.tabs := by
  obtain ⟨P, m, rfl, h1⟩ := h
  exact ⟨rfl, rfl, rfl, rfl, rfl⟩
theorem blk_page {s : Sv} {n : Nat} {p : PgV} (h : s.pgs n = some p) : s.blk (.page n) = some p.g := by simp [h]
theorem blk_row {s : Sv} {n : Nat} {p : PgV} (h : s.pgs n = some p) : s.blk (.row n) = p.v.ownBlock := by simp [h]
theorem blk_tx {s : Sv} {t : Int} {x : TxE} (h : s.tx t = some x) : s.blk (.tx t) = some x.tb := by simp [h]
theorem blk_held {s : Sv} {t : Int} {x : TxE} (h : s.tx t = some x) : s.blk (.held t) = some x.hb := by simp [h]

/-- pool.page, called behind an allocation at w's end. -/
theorem page_behind {w : World} {s : Sv} (h : Lies w s) (g : Good s) (n : Nat) (hn : n < 8) (ob : Obj) (W : World) (hW : Below w.heap.size w W) (hob : W.heap[w.heap.size]? = some ob) :
    Calls Tryz.prog 111 #[.pointer (some ⟨s.kb, 2, none⟩), .int .i64 (n : Int)] W fun e w' => ∃ gb, e = .returned (.pointer (some ⟨gb, 0, none⟩)) ∧ w'.heap[w.heap.size]? = some ob ∧ w.heap.size < w'.heap.size ∧
      ∃ s' p, p.g = gb ∧ s'.pgs n = some p ∧ Paged s s' ∧ Goes W w' s s' ∧ Below w.heap.size w W ∧ w.heap.size < W.heap.size := by
  have hlt : w.heap.size < W.heap.size := lt_of_block' hob
  refine (page_step (h.below hW) g n hn).mono ?_
  rintro e w' ⟨s', p, rfl, h1, h2, h3⟩
  exact ⟨p.g, rfl, ((h3.own h (Nat.le_refl _) hlt).1).trans hob, by have := h3.below.size; omega, s', p, rfl, h1, h2, h3, hW, hlt⟩

set_option maxHeartbeats 1000000 in
theorem get_step {w : World} {s : Sv} (h : Lies w s) (g : Good s) (key : ByteArray) (hks : key.size ≤ 8) :
    Calls Tryz.prog 289 #[.pointer (some ⟨s.kb, 2, none⟩), .string key] w fun e w' => e = .returned (.agg #[.bool (under (s.cont (bucket key)) key).1, .string (under (s.cont (bucket key)) key).2]) ∧ ∃ s', Paged s s' ∧ Goes w w' s s' := by
  obtain ⟨r1, r2, r3⟩ := g.rise _ (bucket_lt key)
  refine (poolGet_of s.kb 2 key w (by omega) (fun gb w' => ∃ W s' p, p.g = gb ∧ s'.pgs (bucket key) = some p ∧ Paged s s' ∧ Goes W w' s s' ∧ Below w.heap.size w W ∧ w.heap.size < W.heap.size) (s.cont (bucket key)) (by omega) r1 ?_ ?_).mono ?_
  · intro ob W hW hob
    refine (page_behind h g _ (bucket_lt key) ob W hW hob).mono ?_
    rintro e w' ⟨gb, rfl, k1, k2, k3⟩
    exact ⟨gb, rfl, k1, W, k3⟩
  · rintro gb w1 ⟨W, s', p, rfl, k1, k2, k3, _⟩
    have hrow := k3.lies.comp (.row _) p k1
    rw [k2.same.2.2.1] at hrow
    exact ⟨_, _, k3.lies.comp (.page _) p k1, hrow⟩
  · rintro e w' ⟨rfl, gb, w1, ⟨W, s', p, rfl, k1, k2, k3, k4, k5⟩, k7, k8, k9⟩
    exact ⟨rfl, s', k2, k3.wrap h k4 (fun q hq ho => k8 q hq (by omega)) k9⟩

set_option maxHeartbeats 1000000 in
theorem hasRoom_step {w : World} {s : Sv} {q : Nat} (h : Lies w s) (g : Good s) (hh : Held s q) (hq : q ≤ 100000) (key : ByteArray) (hks : key.size ≤ 8) :
    Calls Tryz.prog 293 #[.pointer (some ⟨s.kb, 0, none⟩), .string key] w fun e w' => ∃ Kd, e = .returned (.bool (Maps.has Kd (lit key) || decide (Maps.size Kd < 4))) ∧ AllKept (s.cont (bucket key)) s.mo.M s.tabs (bucket key) Kd ∧ ∃ s', Paged s s' ∧ Goes w w' s s' := by
  obtain ⟨r1, r2, r3⟩ := g.rise _ (bucket_lt key)
  have hkb := h.lt .kind _ rfl
  have hmb := h.lt .mo _ rfl
  refine (hasRoom_of s.kb s.mo.b s.mo.n s.mo.M s.tabs key w (by omega) (by have := g.mon; have := g.ac; omega) (fun gb w' => ∃ W s' p, p.g = gb ∧ s'.pgs (bucket key) = some p ∧ Paged s s' ∧ Goes W w' s s' ∧ Below w.heap.size w W ∧ w.heap.size < W.heap.size) (s.cont (bucket key)) (by omega) (fun p hp => by have := (r3 p hp).1; omega) ?_ ?_).mono ?_
  · intro W hW hob
    refine (page_behind h g _ (bucket_lt key) _ W hW hob).mono ?_
    rintro e w' ⟨gb, rfl, k1, k2, k3⟩
    exact ⟨gb, rfl, k1, k2, W, k3⟩
  · rintro gb w1 ⟨W, s', p, rfl, k1, k2, k3, k4, k5⟩
    have hoff := (k3.own h (Nat.le_refl _) k5).2
    have hh' := k2.held hh
    obtain ⟨q1, q2, q3, q4, q5⟩ := k2.same
    have c5 : w1.cell? ⟨s.kb, 5, none⟩ = some (.map (some s.mo.b)) := by rw [← q1, ← q2]; exact cell_at (k3.lies.comp .kind) (cells_of _ (j := 5) (by omega) rfl)
    have hmo' : MapOf w1 3 s.mo.b s.mo.n s.mo.M := by rw [← q2]; exact k3.lies.comp .mo
    have htb : Tabs w1 s.mo.M s.tabs := by rw [← q2, ← q5]; exact tabs_of k3.lies k3.good hh' hq
    have hrow := k3.lies.comp (.row _) p k1
    rw [q3] at hrow
    refine ⟨_, _, ⟨k3.lies.comp (.page _) p k1, hrow⟩, fun e => hoff (.page (bucket key)) (by rw [blk_page k1, e]), fun e => hoff (.row (bucket key)) (by rw [blk_row k1]; exact e), c5, hkb, hmb, hmo', htb, ?_⟩
    rw [← q2]
    intro t u hu tb last hb nH e1 e2 e3
    obtain ⟨x, hx, hux⟩ := open_of k3.good hu
    rw [hux] at e1
    simp only [Value.pointer.injEq, Option.some.injEq, Addr.mk.injEq, and_true] at e1
    subst e1
    refine ⟨fun e => hoff (.tx t) (by rw [blk_tx hx, e]), ?_⟩
    have e4 := k3.lies.comp (.tx t) x hx
    have : hb = x.hb := by
      have e5 := e2.symm.trans e4
      simp at e5
      exact e5.2
    rw [this]
    exact fun e => hoff (.held t) (by rw [blk_held hx, e])
  · rintro e w' ⟨Kd, gb, w1, rfl, k0, ⟨W, s', p, rfl, k1, k2, k3, k4, k5⟩, k8, k9⟩
    exact ⟨Kd, rfl, k0, s', k2, k3.wrap h k4 (fun q hq ho => k8 q hq (by omega)) k9⟩
end Go.Proofs.YtihbngfbcnojcaaGreat

namespace Go.Proofs.YtihbngfbcnojcaaGreat
open Go.RowKit

theorem rising_pw {ps : Pairs} : RisingAt ps ↔ ps.Pairwise (fun a b => blt a.1 b.1) := by
  rw [List.pairwise_iff_getElem]
  exact Iff.rfl

/-- Rising pairs, parted at a key, and what they are with another cell under it. -/
theorem withL_shape {ps : Pairs} (hr : RisingAt ps) (key : ByteArray) (is : Bool) (val : ByteArray) : ∃ A B, (∀ p ∈ A, blt p.1 key) ∧ (∀ p ∈ B, blt key p.1) ∧ (ps = A ++ B ∨ ∃ v0, ps = A ++ (key, v0) :: B) ∧ withL ps key is val = if is then A ++ (key, val) :: B else A ++ B := by
  obtain ⟨i, hpos⟩ := pos_exists ps key hr
  obtain ⟨A, B, hAl, hA, hB, hcase⟩ := part_at hpos hr
  rcases hcase with ⟨v0, hps, _⟩ | ⟨hps, _⟩
  · exact ⟨A, B, hA, hB, .inr ⟨v0, hps⟩, by rw [hps]; exact withL_found A B key v0 is val hA hB⟩
  · exact ⟨A, B, hA, hB, .inl hps, by rw [hps]; exact withL_fresh A B key is val hA hB⟩

theorem withL_rising {ps : Pairs} (hr : RisingAt ps) (key : ByteArray) (is : Bool) (val : ByteArray) : RisingAt (withL ps key is val) := by
  obtain ⟨A, B, hA, hB, hps, hw⟩ := withL_shape hr key is val
  have hAB : (A ++ B).Pairwise (fun a b => blt a.1 b.1) := by
    rcases hps with h | ⟨v0, h⟩
    · rw [← h]; exact rising_pw.1 hr
    · exact (rising_pw.1 hr).sublist (by rw [h]; exact (List.Sublist.refl A).append (List.sublist_cons_self _ B))
  rw [hw, rising_pw]
  cases is with
  | false => exact hAB
  | true =>
    obtain ⟨h1, h2, h3⟩ := List.pairwise_append.1 hAB
    refine List.pairwise_append.2 ⟨h1, List.pairwise_cons.2 ⟨hB, h2⟩, fun a ha b hb => ?_⟩
    rcases List.mem_cons.1 hb with rfl | hb
    · exact hA a ha
    · exact h3 a ha b hb

theorem withL_mem {ps : Pairs} (hr : RisingAt ps) (key : ByteArray) (is : Bool) (val : ByteArray) {p : ByteArray × ByteArray} (hp : p ∈ withL ps key is val) : p ∈ ps ∨ (is = true ∧ p = (key, val)) := by
  obtain ⟨A, B, hA, hB, hps, hw⟩ := withL_shape hr key is val
  rw [hw] at hp
  have hAB : ∀ q ∈ A ++ B, q ∈ ps := fun q hq => by
    rcases hps with h | ⟨v0, h⟩
    · rw [h]; exact hq
    · rw [h]
      rcases List.mem_append.1 hq with h1 | h1
      · exact List.mem_append_left _ h1
      · exact List.mem_append_right _ (List.mem_cons_of_mem _ h1)
  cases is with
  | false => exact .inl (hAB p hp)
  | true =>
    rcases List.mem_append.1 hp with h1 | h1
    · exact .inl (hAB p (List.mem_append_left _ h1))
    · rcases List.mem_cons.1 h1 with h2 | h2
      · exact .inr ⟨rfl, h2⟩
      · exact .inl (hAB p (List.mem_append_right _ h2))

theorem under_append {A B : Pairs} {k : ByteArray} (h : ∀ p ∈ A, p.1 ≠ k) : under (A ++ B) k = under B k := by
  induction A with
  | nil => rfl
  | cons p r ih =>
    rw [List.cons_append, under, if_neg (h p (by simp))]
    exact ih (fun q hq => h q (by simp [hq]))
theorem under_not {A : Pairs} {k : ByteArray} (h : ∀ p ∈ A, p.1 ≠ k) : under A k = (false, ByteArray.empty) := under_none A k (fun _ _ => h _ (List.getElem_mem _))
theorem under_skip {A B : Pairs} {p : ByteArray × ByteArray} {k : ByteArray} (h : p.1 ≠ k) : under (A ++ p :: B) k = under (A ++ B) k := by
  induction A with
  | nil => rw [List.nil_append, under, if_neg h]; rfl
  | cons q r ih =>
    rw [List.cons_append, List.cons_append, under, under]
    split
    · rfl
    · exact ih

/-- What lies under a key behind a change of one. -/
theorem under_withL {ps : Pairs} (hr : RisingAt ps) (key : ByteArray) (is : Bool) (val k : ByteArray) : under (withL ps key is val) k = if k = key then (if is then (true, val) else (false, ByteArray.empty)) else under ps k := by
  obtain ⟨A, B, hA, hB, hps, hw⟩ := withL_shape hr key is val
  rw [hw]
  by_cases hk : k = key
  · subst hk
    rw [if_pos rfl]
    have hA' : ∀ p ∈ A, p.1 ≠ k := fun p hp => blt_ne (hA p hp)
    have hB' : ∀ p ∈ B, p.1 ≠ k := fun p hp e => blt_ne (hB p hp) e.symm
    cases is with
    | true => simp only [if_true]; rw [under_append hA', under, if_pos rfl]
    | false => simp only [Bool.false_eq_true, if_false]; rw [under_append hA', under_not hB']
  · rw [if_neg hk]
    have h1 : under ps k = under (A ++ B) k := by
      rcases hps with h | ⟨v0, h⟩
      · rw [h]
      · rw [h]; exact under_skip (fun e => hk e.symm)
    rw [h1]
    cases is with
    | true => simp only [if_true]; exact under_skip (fun e => hk e.symm)
    | false => simp only [Bool.false_eq_true, if_false]
end Go.Proofs.YtihbngfbcnojcaaGreat

namespace Go.Proofs.YtihbngfbcnojcaaGreat
open Go.RowKit

/-- A page in memory is changed. -/
def Sv.put (s : Sv) (n : Nat) (p : PgV) (ps : Pairs) : Sv :=
  { s with pgs := fun m => if m = n then some p else s.pgs m, cont := fun m => if m = n then ps else s.cont m, mc := ⟨s.mc.b, s.mc.n + 1, s.mc.M.put (.int .i64 (n : Int)) (.held (.agg #[]))⟩ }

theorem away_same (f : Nat → Option PgV) (n : Nat) (p p' : PgV) (h : f n = some p) : away (fun m => if m = n then some p' else f m) = away f := by
  have : ∀ m, (if m = n then some p' else f m).isNone = (f m).isNone := fun m => by
    split
    · rename_i e; rw [e, h]; rfl
    · rfl
  simp only [away, this]

set_option maxHeartbeats 1000000 in
theorem set_step {w : World} {s : Sv} (h : Lies w s) (g : Good s) (key : ByteArray) (hks : key.size ≤ 8) (is : Bool) (val : ByteArray) (hvs : val.size ≤ 12) (hmc : s.mc.n < s.len) (hfit : (withL (s.cont (bucket key)) key is val).length ≤ 4) :
    Calls Tryz.prog 80 #[.pointer (some ⟨s.kb, 2, none⟩), .string key, .agg #[.bool is, .string val]] w fun e w' => e = .returned (.tuple #[]) ∧ ∃ s1 p', Paged s s1 ∧ Goes w w' s (s1.put (bucket key) p' (withL (s.cont (bucket key)) key is val)) := by
  obtain ⟨r1, r2, r3⟩ := g.rise _ (bucket_lt key)
  have hbl := bucket_lt key
  have hln := g.ln
  have hkb := h.lt .kind _ rfl
  refine (poolSet_of s.kb 2 s.mc.b s.mc.n s.mc.M key is val w (by omega) (by omega) ⟨by omega, by omega⟩ (fun gb w' => ∃ W s' p, p.g = gb ∧ s'.pgs (bucket key) = some p ∧ Paged s s' ∧ Goes W w' s s' ∧ Below w.heap.size w W ∧ w.heap.size < W.heap.size) (s.cont (bucket key)) (by omega) r1 ?_ ?_).mono ?_
  · intro ob W hW hob
    refine (page_behind h g _ (bucket_lt key) ob W hW hob).mono ?_
    rintro e w' ⟨gb, rfl, k1, k2, k3⟩
    exact ⟨gb, rfl, k1, W, k3⟩
  · rintro gb w1 ⟨W, s', p, rfl, k1, k2, k3, k4, k5⟩
    have hoff := (k3.own h (Nat.le_refl _) k5).2
    have hrow := k3.lies.comp (.row _) p k1
    rw [k2.same.2.2.1] at hrow
    have hL := k3.lies
    have hmcs : s'.mc = s.mc := by obtain ⟨P, m, rfl, _⟩ := k2; rfl
    have hkbs : s'.kb = s.kb := k2.same.1
    have e1 : ∀ b, p.v.ownBlock = some b → ∀ tag, s'.blk tag = some b → tag = .row (bucket key) := fun b hb tag ht => hL.apart tag (.row (bucket key)) b ht (by rw [blk_row k1]; exact hb)
    refine ⟨_, _, ⟨hL.comp (.page _) p k1, hrow⟩, fun e => ?_, ?_, ?_, fun e => hoff (.page (bucket key)) (by rw [blk_page k1, e]), fun e => ?_, fun e => ?_, fun e => hoff (.row (bucket key)) (by rw [blk_row k1]; exact e), ?_, ?_, ?_⟩
    · have := e1 _ e _ (blk_page k1); simp at this
    · exact hL.ne (a := .page (bucket key)) (b := .kind) (blk_page k1) (by rw [← hkbs]; rfl) (by simp)
    · exact hL.ne (a := .page (bucket key)) (b := .mc) (blk_page k1) (by rw [← hmcs]; rfl) (by simp)
    · have := e1 _ e .kind (by rw [← hkbs]; rfl); simp at this
    · have := e1 _ e .mc (by rw [← hmcs]; rfl); simp at this
    · have := k3.below.size; omega
    · rw [← hkbs, ← hmcs]; exact cell_at (hL.comp .kind) (cells_of _ (j := 4) (by omega) rfl)
    · rw [← hmcs]; exact hL.comp .mc
  · rintro e w' ⟨rfl, gb, w1, w2, turn, v, ⟨W, s', p, rfl, k1, k2, k3, k4, k5⟩, hpa, hz1, ⟨v', hp', hne', hfr, hvb, hb2⟩, hm3, hfr3, hz3, hb3⟩
    have hL := k3.lies
    have hG := k3.good
    have hpg := hL.comp (.page _) p k1
    have hpv : v = p.v := by
      have e5 := hpa.1.symm.trans hpg
      simp at e5
      exact e5.2
    subst hpv
    have hmcs : s'.mc = s.mc := by obtain ⟨P, m, rfl, _⟩ := k2; rfl
    have hlens : s'.len = s.len := by obtain ⟨P, m, rfl, _⟩ := k2; rfl
    have hcont : s'.cont = s.cont := k2.same.2.2.1
    have hturn : turn = (p.turn : Int) := by
      have e5 := hpa.1.symm.trans hpg
      simp at e5
      exact e5
    subst hturn
    have hlt2 := hb2.size
    have hlt3 := hb3.size
    have hmcb : s'.blk .mc = some s.mc.b := by rw [← hmcs]; rfl
    have hnv : v'.ownBlock ≠ some s.mc.b := fun e => by
      rcases hvb with h1 | ⟨k, h1, h2⟩
      · have := hL.apart .mc (.row (bucket key)) s.mc.b hmcb (by rw [blk_row k1, ← h1]; exact e); simp at this
      · rw [h2] at e; simp at e; have := hL.lt .mc _ hmcb; omega
    have hng : p.g ≠ s.mc.b := hL.ne (a := .page (bucket key)) (b := .mc) (blk_page k1) hmcb (by simp)
    have hp'1 : w'.heap[p.g]? = some (.cells #[.int .i64 (p.turn : Int), v'] 180 (0, 0)) := (hfr3 p.g hng).trans hp'.1
    have hp'2 := owns_off (w' := w') hp'.2 (fun k hk => hfr3 k (fun e => hnv (by rw [← e]; exact hk)))
    have hm3' : MapOf w' 3 s.mc.b (s.mc.n + 1) (s.mc.M.put (.int .i64 (bucket key : Int)) (.held (.agg #[]))) := hm3
    have hvlt : ∀ k, v'.ownBlock = some k → k < w'.heap.size := fun k hk => (World.ownsRow.lt hp'2 k hk).2
    generalize hn : bucket key = n at *
    have hgo : Goes w1 w' s' (s'.put n ⟨p.g, p.turn, v'⟩ (withL (s.cont n) key is val)) := by
      have hB : ∀ tag, tag ≠ .row n → (s'.put n ⟨p.g, p.turn, v'⟩ (withL (s.cont n) key is val)).blk tag = s'.blk tag := fun tag ht => by
        cases tag using Tag.elim with
        | page m =>
          by_cases hm : m = n
          · subst hm; simp [Sv.put, k1]
          · simp [Sv.put, hm]
        | row m =>
          have hm : m ≠ n := fun e => ht (by rw [e])
          simp [Sv.put, hm]
        | _ => rfl
      have hBr : (s'.put n ⟨p.g, p.turn, v'⟩ (withL (s.cont n) key is val)).blk (.row n) = v'.ownBlock := by simp [Sv.put]
      have hgr : Grown s' (s'.put n ⟨p.g, p.turn, v'⟩ (withL (s.cont n) key is val)) w1.heap.size := fun tag k hk => by
        by_cases ht : tag = .row n
        · subst ht
          rw [hBr] at hk
          rcases hvb with h1 | ⟨q, h1, h2⟩
          · exact .inl (by rw [blk_row k1, ← h1]; exact hk)
          · rw [h2] at hk; simp at hk; exact .inr (by omega)
        · rw [hB tag ht] at hk; exact .inl hk
      have hoff : ∀ q, q < w1.heap.size → q ≠ p.g → q ≠ s.mc.b → p.v.ownBlock ≠ some q → w'.heap[q]? = w1.heap[q]? := fun q h1 h2 h3 h4 => (hfr3 q h3).trans (hfr q h1 h2 h4)
      refine ⟨?_, ?_, hgr, fun q hq hnt => hoff q hq (fun e => hnt (.page n) (by rw [blk_page k1, e])) (fun e => hnt .mc (by rw [hmcb, e])) (fun e => hnt (.row n) (by rw [blk_row k1]; exact e)), hb2.trans hb3⟩
      · refine hL.step (fun tag => tag = .mc ∨ tag = .page n ∨ tag = .row n) ?_ ?_ ?_ ?_ ?_ (by omega)
        · intro tag ht
          simp only [not_or] at ht
          obtain ⟨t1, t2, t3⟩ := ht
          refine ⟨hB tag t3, fun W hW => ?_⟩
          cases tag using Tag.elim with
          | page m => have hm : m ≠ n := fun e => t2 (by rw [e]); intro y hy; simp [Sv.put, hm] at hy; exact hW y hy
          | row m => have hm : m ≠ n := fun e => t3 (by rw [e]); intro y hy; simp [Sv.put, hm] at hy ⊢; exact hW y hy
          | mc => exact absurd rfl t1
          | _ => exact hW
        · intro tag k ht hk
          simp only [not_or] at ht
          obtain ⟨t1, t2, t3⟩ := ht
          exact hoff k (hL.lt tag k hk) (fun e => t2 (hL.apart tag (.page n) k hk (by rw [blk_page k1, e]))) (fun e => t1 (hL.apart tag .mc k hk (by rw [hmcb, e]))) (fun e => t3 (hL.apart tag (.row n) k hk (by rw [blk_row k1]; exact e)))
        · rintro tag (rfl | rfl | rfl)
          · show MapOf w' 3 s'.mc.b (s'.mc.n + 1) (s'.mc.M.put (.int .i64 (n : Int)) (.held (.agg #[])))
            rw [hmcs]; exact hm3'
          · intro y hy
            simp [Sv.put] at hy
            subst hy
            exact hp'1
          · intro y hy
            simp [Sv.put] at hy
            subst hy
            simp only [Sv.put, if_true]
            exact hp'2
        · rintro tag k ht hk
          by_cases htr : tag = .row n
          · subst htr
            rcases hgr _ k hk with h1 | h1
            · exact .inl h1
            · rw [hBr] at hk; exact .inr ⟨h1, hvlt k hk⟩
          · rw [hB tag htr] at hk; exact .inl hk
        · intro a b k ha hb h1 h2
          by_cases har : a = .row n
          · by_cases hbr : b = .row n
            · rw [har, hbr]
            · exfalso
              subst har
              rw [hBr] at h1
              rw [hB b hbr] at h2
              rcases hb with rfl | rfl | rfl
              · rw [hmcb] at h2; simp at h2; exact hnv (by rw [h2]; exact h1)
              · rw [blk_page k1] at h2; simp at h2; exact hne' (by rw [h2]; exact h1)
              · exact hbr rfl
          · by_cases hbr : b = .row n
            · exfalso
              subst hbr
              rw [hBr] at h2
              rw [hB a har] at h1
              rcases ha with rfl | rfl | rfl
              · rw [hmcb] at h1; simp at h1; exact hnv (by rw [h1]; exact h2)
              · rw [blk_page k1] at h1; simp at h1; exact hne' (by rw [h1]; exact h2)
              · exact har rfl
            · rw [hB a har] at h1
              rw [hB b hbr] at h2
              exact hL.apart a b k h1 h2
      · refine { dsz := hG.dsz, dv := hG.dv, fuse := hG.fuse, ok := hG.ok, wn := hG.wn, ln := hG.ln, db := hG.db, wb := hG.wb, have' := fun m y hm hy zd => ?_, lack := fun m hm hy zd => ?_, room := ?_, load := fun m hm hy => ?_, rise := fun m hm => ?_, st := hG.st, ct := hG.ct, ac := hG.ac, mon := hG.mon, mcn := ?_, isOpen := hG.isOpen, notOpen := hG.notOpen }
        · by_cases hmn : m = n
          · subst hmn
            simp [Sv.put] at hy
            subst hy
            exact hG.have' m p hm k1 zd
          · simp [Sv.put, hmn] at hy
            exact hG.have' m y hm hy zd
        · by_cases hmn : m = n
          · subst hmn; simp [Sv.put] at hy
          · simp [Sv.put, hmn] at hy
            exact hG.lack m hm hy zd
        · have := hG.room
          show s'.mp.n + away (fun m => if m = n then some ⟨p.g, p.turn, v'⟩ else s'.pgs m) ≤ 8
          rw [away_same s'.pgs n p _ k1]
          exact this
        · by_cases hmn : m = n
          · subst hmn; simp [Sv.put] at hy
          · simp [Sv.put, hmn] at hy ⊢
            exact hG.load m hm hy
        · by_cases hmn : m = n
          · subst hmn
            simp only [Sv.put, if_true]
            refine ⟨withL_rising r1 key is val, hfit, fun y hy => ?_⟩
            rcases withL_mem r1 key is val hy with h1 | ⟨_, h1⟩
            · exact r3 y h1
            · rw [h1]; exact ⟨hks, hvs⟩
          · simp only [Sv.put, hmn, if_false]
            exact hG.rise m hm
        · show s'.mc.n + 1 ≤ s'.len
          rw [hmcs, hlens]; omega
    have hall := k3.trans hgo
    exact ⟨rfl, s', _, k2, Goes.wrap h k4 hall (fun q _ _ => rfl) (Below.refl _ _)⟩
end Go.Proofs.YtihbngfbcnojcaaGreat

namespace Go.Proofs.YtihbngfbcnojcaaGreat
open Go.RowKit

theorem readW_snoc (D : Array Value) (ws : List (Nat × List Value)) (a a' : Nat) (S : List Value) (v' : Value) (hne : a' ≠ a) (ha : a < 434) : readW (D.setIfInBounds 27776 v') (ws ++ [(a', S)]) a = readW D ws a := by
  unfold readW
  have h1 : (ws ++ [(a', S)]).reverse.find? (fun p => p.1 == a) = ws.reverse.find? (fun p => p.1 == a) := by
    rw [List.reverse_append]
    simp [hne]
  have h2 : (D.setIfInBounds 27776 v').extract (a * 64) (a * 64 + 64) = D.extract (a * 64) (a * 64 + 64) := by
    apply Array.ext_getElem?
    intro i
    simp only [Array.getElem?_extract, Array.size_setIfInBounds]
    split
    · exact Array.getElem?_setIfInBounds_ne (by omega)
    · rfl
  rw [h1, h2]

theorem sealed_byte (a b : Int) (bl : List Value) (h : ∀ u ∈ bl, IsByte u) : ∀ u ∈ sealed a b bl, IsByte u := fun u hu => by
  simp only [sealed, List.mem_append] at hu
  rcases hu with ((hu | hu) | hu) | hu
  · rcases hu with hu | hu
    · exact be_byte _ _ u hu
    · exact be_byte _ _ u hu
  · exact h u hu
  · exact rep_byte _ u hu
  · rcases hu with hu | hu
    · exact be_byte _ _ u hu
    · exact be_byte _ _ u hu

/-- An entry is in the log. -/
def entered (s : Sv) (t : Int) (x : TxE) (e : EntV) (v' : Value) : Sv :=
  { s with len := s.len + 1, count := s.count + 1, D := s.D.setIfInBounds 27776 v', ws := s.ws ++ [(34 + s.len, sealed s.start (s.count + 1) (EntV.body { e with tx := t, prev := (x.last : Int) }))], v := v', tx := fun u => if u = t then some { x with last := s.len + 1 } else s.tx u }

theorem entered_cells (s : Sv) (t : Int) (x : TxE) (e : EntV) (v' : Value) : (entered s t x e v').cells = s.cells.setIfInBounds 1 (.int .i64 ((s.len + 1 : Nat) : Int)) := by
  unfold Sv.cells
  have : (entered s t x e v').made = s.made := rfl
  rw [this]
  cases s.made <;> simp [entered]

set_option maxHeartbeats 1000000 in
theorem enter_step {w : World} {s : Sv} {q : Nat} (h : Lies w s) (g : Good s) (hh : Held s q) (hlen : s.len ≤ 390) (t : Int) (ht : 0 ≤ t ∧ t < 256) (x : TxE) (hx : s.tx t = some x) (e : EntV) (he : EntV.Fits { e with tx := t, prev := (x.last : Int) }) :
    Calls Tryz.prog 288 #[.pointer (some ⟨s.kb, 0, none⟩), .int .i64 t, .agg e.cells] w fun r w' => r = .returned (.tuple #[]) ∧ ∃ v', Goes w w' s (entered s t x e v') ∧ Held (entered s t x e v') q := by
  have hwn := g.wn
  have hct := g.ct
  have hac := g.ac
  have hown : w.ownsRow (s.db + 1) 143 65 s.v s.ws.length (rowOf s.ws) := h.comp .uns
  have hn : ∀ tag k, s.blk tag = some k → tag ≠ .uns → s.v.ownBlock ≠ some k := fun tag k hk ht' e => ht' (h.apart tag .uns k hk e)
  refine (enter_any s.kb s.vb s.db s.mo.b s.mo.n x.tb x.hb s.mo.M s.cells s.ty s.len s.start s.count s.turn s.D s.ws s.v e t (x.last : Int) w (h.comp .kind) (cells_of s (by omega) rfl) (cells_of s (by omega) rfl) (cells_of s (by omega) rfl) hlen (h.comp .vol) g.st.1 g.st.2 hct.1 (by omega) (h.disk g) g.fuse hown (by omega)
    (h.ne (a := .kind) (b := .vol) rfl rfl (by simp)) (h.ne (a := .kind) (b := .disk) rfl rfl (by simp)) (h.ne (a := .vol) (b := .disk) rfl rfl (by simp)) (hn .kind _ rfl (by simp)) (hn .vol _ rfl (by simp)) (h.ne (a := .tx t) (b := .kind) (blk_tx hx) rfl (by simp)) (h.ne (a := .tx t) (b := .vol) (blk_tx hx) rfl (by simp)) (h.ne (a := .tx t) (b := .disk) (blk_tx hx) rfl (by simp)) (hn (.tx t) _ (blk_tx hx) (by simp))
    ht (h.comp .mo) (g.isOpen t x hx) (h.comp (.tx t) x hx) he).mono ?_
  rintro r w' ⟨rfl, v', k1, k2, k3, k4, k5, k6, k7, k8⟩
  have e1 : (entered s t x e v').ws = s.ws ++ [(34 + s.len, sealed s.start (s.count + 1) (EntV.body { e with tx := t, prev := (x.last : Int) }))] := rfl
  have k4' : w'.ownsRow (s.db + 1) 143 65 v' (entered s t x e v').ws.length (rowOf (entered s t x e v').ws) := by
    rw [e1, List.length_append]
    exact k4
  have hB : ∀ tag, tag ≠ .uns → (entered s t x e v').blk tag = s.blk tag := fun tag ht' => by
    cases tag using Tag.elim with
    | uns => exact absurd rfl ht'
    | tx u => by_cases hu : u = t
              · subst hu; simp [entered, hx]
              · simp [entered, hu]
    | held u => by_cases hu : u = t
                · subst hu; simp [entered, hx]
                · simp [entered, hu]
    | _ => rfl
  have hgr : Grown s (entered s t x e v') w.heap.size := fun tag k hk => by
    by_cases hu : tag = .uns
    · subst hu
      rcases k5 with h1 | ⟨j, h1, h2⟩
      · exact .inl (h1.symm.trans hk)
      · have : v'.ownBlock = some k := hk
        rw [h2] at this; simp at this; exact .inr (by omega)
    · rw [hB tag hu] at hk; exact .inl hk
  have hul : ∀ k, v'.ownBlock = some k → s.db + 1 ≤ k ∧ k < w'.heap.size := World.ownsRow.lt k4
  have hul1 : ∀ tag k, s.blk tag = some k → tag ≠ .uns → v'.ownBlock ≠ some k := fun tag k hk htg e5 => by
    rcases k5 with h1 | ⟨j, h1, h2⟩
    · exact hn tag k hk htg (by rw [← h1]; exact e5)
    · rw [h2] at e5; simp at e5; have := h.lt tag k hk; omega
  refine ⟨rfl, v', ⟨?_, ?_, hgr, fun k hk hnt => k7 k hk (fun e5 => hnt .kind (by rw [e5]; rfl)) (fun e5 => hnt .vol (by rw [e5]; rfl)) (fun e5 => hnt .disk (by rw [e5]; rfl)) (fun e5 => hnt (.tx t) (by rw [blk_tx hx, e5])) (fun e5 => hnt .uns e5), k8⟩, ?_⟩
  · refine h.step (fun tag => tag = .kind ∨ tag = .vol ∨ tag = .disk ∨ tag = .uns ∨ tag = .tx t) ?_ ?_ ?_ ?_ ?_ k8.size
    · intro tag htg
      simp only [not_or] at htg
      obtain ⟨t1, t2, t3, t4, t5⟩ := htg
      refine ⟨hB tag t4, fun W hW => ?_⟩
      cases tag using Tag.elim with
      | tx u => have hu : u ≠ t := fun e5 => t5 (by rw [e5]); intro y hy; simp [entered, hu] at hy; exact hW y hy
      | held u =>
        intro y hy
        by_cases hu : u = t
        · subst hu
          simp [entered] at hy
          subst hy
          exact hW x hx
        · simp [entered, hu] at hy; exact hW y hy
      | kind => exact absurd rfl t1
      | vol => exact absurd rfl t2
      | disk => exact absurd rfl t3
      | uns => exact absurd rfl t4
      | _ => exact hW
    · intro tag k htg hk
      simp only [not_or] at htg
      obtain ⟨t1, t2, t3, t4, t5⟩ := htg
      exact k7 k (h.lt tag k hk) (fun e5 => t1 (h.apart tag .kind k hk (by rw [e5]; rfl))) (fun e5 => t2 (h.apart tag .vol k hk (by rw [e5]; rfl))) (fun e5 => t3 (h.apart tag .disk k hk (by rw [e5]; rfl))) (fun e5 => t5 (h.apart tag (.tx t) k hk (by rw [blk_tx hx, e5]))) (fun e5 => t4 (h.apart tag .uns k hk e5))
    · rintro tag (rfl | rfl | rfl | rfl | rfl)
      · show w'.heap[s.kb]? = some (.cells (entered s t x e v').cells s.ty (0, 0))
        rw [entered_cells]; exact k1
      · exact k2
      · exact k3
      · exact k4'
      · intro y hy
        simp [entered] at hy
        subst hy
        exact k6
    · intro tag k htg hk
      by_cases hu : tag = .uns
      · rcases hgr tag k hk with h1 | h1
        · exact .inl h1
        · subst hu; exact .inr ⟨h1, (hul k hk).2⟩
      · rw [hB tag hu] at hk; exact .inl hk
    · intro a b k ha hb h1 h2
      by_cases hau : a = .uns
      · by_cases hbu : b = .uns
        · rw [hau, hbu]
        · rw [hB b hbu] at h2
          subst hau
          exact absurd h1 (hul1 b k h2 hbu)
      · rw [hB a hau] at h1
        by_cases hbu : b = .uns
        · subst hbu
          exact absurd h2 (hul1 a k h1 hau)
        · rw [hB b hbu] at h2
          exact h.apart a b k h1 h2
  · have hbody : (EntV.body { e with tx := t, prev := (x.last : Int) }).length ≤ 48 := by rw [EntV.body_length _ he]; omega
    refine { dsz := by show (s.D.setIfInBounds 27776 v').size = 27779; rw [Array.size_setIfInBounds]; exact g.dsz, dv := ?_, fuse := ?_, ok := ?_, wn := ?_, ln := ?_, db := ?_, wb := ?_, have' := g.have', lack := g.lack, room := g.room, load := fun n hn' hp => ?_, rise := g.rise, st := g.st, ct := ?_, ac := g.ac, mon := g.mon, mcn := ?_, isOpen := fun u y hy => ?_, notOpen := fun u hy => ?_ }
    · show (s.D.setIfInBounds 27776 v')[27776]? = some v'
      exact Array.getElem?_setIfInBounds_self_of_lt (by rw [g.dsz]; omega)
    · show (s.D.setIfInBounds 27776 v')[27777]? = some (.int .i64 0)
      rw [Array.getElem?_setIfInBounds_ne (by omega)]; exact g.fuse
    · intro p hp
      rcases List.mem_append.1 hp with h1 | h1
      · exact g.ok p h1
      · simp at h1
        subst h1
        exact ⟨by show 34 + s.len < 434; omega, sealed_length _ _ _ hbody, sealed_one _ _ _ (EntV.body_one _)⟩
    · rw [e1, List.length_append]
      show s.ws.length + 1 ≤ s.len + 1 + 100
      omega
    · show s.len + 1 ≤ 391
      omega
    · intro i u hi hu
      have hu' : (s.D.setIfInBounds 27776 v')[i]? = some u := hu
      rw [Array.getElem?_setIfInBounds_ne (by omega)] at hu'
      exact g.db i u hi hu'
    · intro p hp
      rcases List.mem_append.1 hp with h1 | h1
      · exact g.wb p h1
      · simp at h1
        subst h1
        exact sealed_byte _ _ _ (EntV.body_byte _ he)
    · obtain ⟨c0, c1, ⟨a1, a2, a3, a4⟩, hc⟩ := g.load n hn' hp
      refine ⟨c0, c1, ⟨⟨?_, ?_⟩, ⟨?_, ?_⟩, a3, a4⟩, hc⟩
      · exact (readW_snoc _ _ _ _ _ _ (by omega) (by omega)).trans a1.1
      · exact (readW_snoc _ _ _ _ _ _ (by omega) (by omega)).trans a1.2
      · exact (readW_snoc _ _ _ _ _ _ (by omega) (by omega)).trans a2.1
      · exact (readW_snoc _ _ _ _ _ _ (by omega) (by omega)).trans a2.2
    · show 0 ≤ s.count + 1 ∧ s.count + 1 ≤ 100 + ((s.len + 1 : Nat) : Int) + 1000 * s.acts
      omega
    · have := g.mcn
      show s.mc.n ≤ s.len + 1
      omega
    · by_cases hu : u = t
      · subst hu
        simp [entered] at hy
        subst hy
        exact g.isOpen u x hx
      · simp [entered, hu] at hy
        exact g.isOpen u y hy
    · by_cases hu : u = t
      · subst hu; simp [entered] at hy
      · simp [entered, hu] at hy
        exact g.notOpen u hy
  · intro u y hy
    by_cases hu : u = t
    · subst hu
      simp [entered] at hy
      subst hy
      exact hh u x hx
    · simp [entered, hu] at hy
      exact hh u y hy
end Go.Proofs.YtihbngfbcnojcaaGreat

namespace Go.Proofs.YtihbngfbcnojcaaGreat
open Go.RowKit

set_option maxRecDepth 100000 in
set_option maxHeartbeats 1000000 in
/-- (*steal).Read. -/
theorem stealRead_step {w : World} {s : Sv} {q : Nat} (h : Lies w s) (g : Good s) (hh : Held s q) (hq : q ≤ 99999) (t : Int) (ht : IsInt t) (x : TxE) (hx : s.tx t = some x) (key : ByteArray) (hks : key.size ≤ 8) :
    Calls Tryz.prog 302 #[.pointer (some ⟨s.kb, 0, none⟩), .int .i64 t, .string key] w fun e w' => e = .returned (.agg #[.bool (under (s.cont (bucket key)) key).1, .string (under (s.cont (bucket key)) key).2]) ∧ ∃ s', Paged (granted s t x key 1) s' ∧ Goes w w' s s' ∧ Held s' (q + 1) := by
  have KG : Hid (∀ W, Below w.heap.size w W → Calls Tryz.prog 294 #[.pointer (some ⟨s.kb, 0, none⟩), .int .i64 t, .string key, .int .i64 1] W fun e w' => e = .returned (.tuple #[]) ∧ Goes W w' s (granted s t x key 1) ∧ Held (granted s t x key 1) (q + 1)) := fun W hW => grant_step (h.below hW) g hh (by omega) t ht x hx key hks 1 (by omega)
  have KR : Hid (∀ W, Goes (w.alloc (.cells #[.bool false, .string ByteArray.empty] 38)) W s (granted s t x key 1) → Calls Tryz.prog 289 #[.pointer (some ⟨s.kb, 2, none⟩), .string key] W fun e w' => e = .returned (.agg #[.bool (under (s.cont (bucket key)) key).1, .string (under (s.cont (bucket key)) key).2]) ∧ ∃ s', Paged (granted s t x key 1) s' ∧ Goes W w' (granted s t x key 1) s') := fun W hW => get_step hW.lies hW.good key hks
  have HL : Hid (Lies w s) := h
  have HB0 : Hid (∀ o, Below w.heap.size w (w.alloc o)) := fun o => (Below.refl _ w).alloc (Nat.le_refl _) _
  generalize under (s.cont (bucket key)) key = u at KR ⊢
  obtain ⟨ui, us⟩ := u
  simp only at KR ⊢
  generalize hs1 : granted s t x key 1 = s1 at KG KR ⊢
  generalize hkb : s.kb = kb at KG KR ⊢
  clear h g hh hx hs1
  go_enter Tryz.func302, Tryz.ntmps302
  go_wp2_with (first
    | (go_at_call 294; go_must (
        refine (KG.out _ (HB0.out _)).mono ?_
        rintro e w1 ⟨rfl, hg1, hh1⟩
        have HG1 := @id (Hid (Goes _ w1 s s1)) hg1
        have HH1 : Hid (Held s1 (q + 1)) := hh1
        clear hg1 hh1))
    | (go_at_call 289; go_must (
        refine (KR.out _ HG1.out).mono ?_
        rintro e w2 ⟨rfl, s2, hp2, hg2⟩
        have HP2 : Hid (Paged s1 s2) := hp2
        have HG2 := @id (Hid (Goes _ w2 s s2)) (HG1.out.trans hg2)
        have q2 := (HG2.out.own HL.out (q := w.heap.size) (Nat.le_refl _) (by simp)).1.trans (heap_alloc_new w _)
        have x0 := cell_at (j := 0) q2 rfl
        have x1 := cell_at (j := 1) q2 rfl
        have y0 := frozen_at 0 q2
        have y1 := frozen_at 1 q2
        have HQQ := @id (Hid _) q2
        clear hp2 hg2 q2)))
  have k3 := setCell_at _ w.heap.size 1 (.string us) _ 38 (setCell_at w2 w.heap.size 0 (.bool ui) _ 38 HQQ.out)
  refine bodyPost_ret (v := .agg #[.bool ui, .string us]) (results_cell_row Tryz.results302 _ _ w.heap.size 38 #[.bool ui, .string us] (0, 0) _ rfl k3 Tryz.underlying38 rfl (by kernel_rfl)) rfl ⟨rfl, s2, HP2.out, ?_, HP2.out.held HH1.out⟩
  refine Goes.wrap HL.out (HB0.out _) HG2.out (fun k _ hk => ?_) ?_
  · have hk' : k ≠ w.heap.size := by simp at hk; omega
    rw [Below.heap_setCell _ _ _ _ hk', Below.heap_setCell _ _ _ _ hk']
  · exact ((Below.refl _ _).setCell (p := ⟨w.heap.size, 0, none⟩) (by simp) _).setCell (p := ⟨w.heap.size, 1, none⟩) (by simp) _
end Go.Proofs.YtihbngfbcnojcaaGreat
