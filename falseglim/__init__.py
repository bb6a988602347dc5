"""Falseglim: sea lights, weather and minds, and nights on which nobody is sure of what is not so."""
