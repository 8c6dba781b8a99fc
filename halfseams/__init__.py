"""Halfseams: skins of patches, kept by half seams."""
