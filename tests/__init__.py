"""The tests of barstay."""
