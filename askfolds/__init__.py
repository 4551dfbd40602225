"""Askfolds: forms whose questions show by what was answered."""
