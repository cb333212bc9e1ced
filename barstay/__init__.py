"""Barstay: holes of growing shapes as bars."""
