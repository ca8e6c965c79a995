"""Scruplehouse: small doses weighed on a coarse balance."""
