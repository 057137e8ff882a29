"""Beliefsets: how far evidence goes, and papers that show it."""
