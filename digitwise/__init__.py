"""Digitwise: arithmetic of whole numbers decided by machines that read digits."""
